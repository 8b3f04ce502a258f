"""Knots: points 38 to 41 and the heading levelgifts/knots.py."""

import random

from checks import Case
from levelgifts.faults import NoPlace
from levelgifts.knots import greatest_knot, is_knot, knot_core, knot_rule
from levelgifts.moments import all_moments
from levelgifts.nets import Net
from levelgifts.newick import read_newick
from levelgifts.pluck import can_be_plucked
from samples import CHERRY, DOC, KNOT, ONE_PLACE, SAMPLES, STACK, caterpillar, greatest, random_nets, stacked
from slow_knots import inner_of, slow_core, slow_greatest, slow_is_knot, slow_knots, slow_rule, slow_rules, slow_stuck
from slow_rows import slow_follow, slow_maximal

BIG = 10 ** 59
# A split above two mixings, each with a mixing as its child that has thus two mixings as mothers.
TOWER = ([(0, 1), (0, 2), (1, 3), (1, 4), (2, 3), (2, 4), (3, 5), (4, 5), (5, 6)], [(6, "a")])
# A mixing above a split: the root 0, the mixing 1, its child 2, and its other mother 5.
UNDER = ([(0, 1), (0, 5), (1, 2), (2, 3), (2, 4), (5, 1), (5, 6)], [(3, "b"), (4, "d"), (6, "c")])
# Papers of any kind that are no list of integers.
STRANGE = [None, True, False, 0, 9, -1, BIG, "", "knot", (), (1, 2), (1, 2, 7, 8, 9), [None], [True], [[1]], [(1,)], ["1"],
           [()], [[]], (([],),)]


class Rules(Case):
    def check(self, wanted, sample, members, place):
        arrows, leaves = sample
        self.assertEqual(slow_rule(arrows, members, place), wanted)
        self.expect(wanted, knot_rule, Net(arrows, leaves), members, place)

    def test_split(self):
        tree = ([(4, 9), (4, 2), (2, 30), (2, 3)], [(9, "a"), (30, "b"), (3, "c")])
        self.check("split", tree, [2], 4)
        self.check("split", tree, [2, 4], 4)
        self.check(None, tree, [], 4)
        self.check(None, tree, [4], 4)
        self.check(None, tree, [4, 2], 2)
        self.check("split", UNDER, [5], 0)
        self.check(None, UNDER, [1], 0)

    def test_below(self):
        self.check("below", UNDER, [2], 0)
        self.check("below", UNDER, [2], 5)
        self.check("below", UNDER, [1, 2], 5)
        self.check(None, UNDER, [1], 5)
        self.check(None, UNDER, [0, 1, 5], 5)
        self.check("below", TOWER, [5], 1)
        self.check("below", TOWER, [5], 2)
        self.check(None, TOWER, [5], 0)

    def test_mixings(self):
        self.check("mixings", KNOT, [1, 2], 8)
        self.check("mixings", KNOT, [9, 7, 2, 8, 1], 7)
        self.check(None, KNOT, [1], 8)
        self.check(None, KNOT, [2, 7, 8, 9], 8)
        self.check("mixings", TOWER, [3, 4], 1)
        self.check(None, UNDER, [1], 5)

    def test_child(self):
        self.check("child", UNDER, [2], 1)
        self.check(None, UNDER, [1], 1)
        self.check("child", TOWER, [5], 3)
        self.check(None, UNDER, [0], 1)

    def test_mothers(self):
        self.check("mothers", KNOT, [2], 1)
        self.check("mothers", KNOT, [1], 2)
        self.check(None, KNOT, [1, 7, 8, 9], 1)
        # Two splits, of which one has its other child among the members.
        self.check(None, UNDER, [5], 1)
        self.check("mothers", STACK, [30], 4)
        self.check(None, STACK, [6, 50, 4], 4)
        # The other child of the one mother is itself the other mother.
        self.check("mothers", ([(8, 3), (8, 0), (3, 0), (3, 5), (0, 1), (5, 6), (5, 7)], [(1, "x"), (6, "y"), (7, "z")]),
                   [3, 5], 0)

    def test_mothers_that_are_mixings(self):
        self.check("mothers", TOWER, [], 5)
        self.check("mothers", TOWER, [5], 5)
        self.check("mothers", TOWER, [0, 1], 5)

    def test_the_first_rule_is_told(self):
        self.check("split", UNDER, [2, 5], 0)
        self.check("below", TOWER, [3, 4, 5], 1)
        self.check("child", TOWER, [4, 5], 3)
        self.check("mothers", TOWER, [4], 3)
        # The three rules of splits are all due in no net: two children cannot be splits and mixings.
        seen = set()
        for arrows, leaves in SAMPLES + random_nets(300, seed=81):
            for place in inner_of(arrows):
                seen.add(tuple(slow_rules(arrows, inner_of(arrows), place)))
        self.assertLessEqual({("split", "below"), ("below", "mixings"), ("child", "mothers")}, seen)

    def test_members_in_any_order_and_again(self):
        self.check("mixings", KNOT, [2, 1, 2, 1, 1], 8)
        self.check("split", KNOT, [7] * 400, 9)
        self.check(None, KNOT, [9] * 400, 9)

    def test_random_members(self):
        chance, seen = random.Random(82), {}
        for arrows, leaves in SAMPLES + random_nets(300, seed=82):
            net, inner = Net(arrows, leaves), inner_of(arrows)
            for place in inner:
                members = chance.choices(inner, k=chance.randrange(2 * len(inner) + 1))
                word = slow_rule(arrows, members, place)
                self.expect(word, knot_rule, net, members, place)
                seen[word, place in members] = True
        self.assertEqual(len(seen), 12)

    def test_no_place(self):
        net = Net(*KNOT)
        for bad in (5, 6, 0, -1, 10, 9999, BIG, -BIG):
            for members in ([bad], [9, bad], [bad, 9], [1, 1, bad, 77], [bad, 5, 6], [bad] * 400):
                for place in (9, 1, 5, 6, 77, bad, -BIG):
                    self.refuses(NoPlace, {"bad": bad}, knot_rule, net, members, place)
                self.refuses(NoPlace, {"bad": bad}, greatest_knot, net, members=members)
            for members in ([], [9], [1, 2, 7, 8, 9], [9, 9]):
                self.refuses(NoPlace, {"bad": bad}, knot_rule, net, members, bad)
        self.refuses(NoPlace, {"bad": 7}, knot_rule, Net(*ONE_PLACE), [], 7)
        self.refuses(NoPlace, {"bad": 7}, knot_rule, Net(*ONE_PLACE), [7], 8)

    def test_by_name(self):
        self.expect("mothers", knot_rule, place=1, members=[2], net=Net(*KNOT))


class Judge(Case):
    def test_small(self):
        net = Net(*KNOT)
        self.expect(True, is_knot, net, [1, 2, 7, 8, 9])
        self.expect(True, is_knot, net, [1, 2])
        self.expect(True, is_knot, net, [1, 2, 7])
        for paper in ([], [1], [2], [7, 8, 9], [1, 7, 8, 9], [9], [1, 2, 9]):
            self.expect(False, is_knot, net, paper)
        self.expect(True, is_knot, Net(*TOWER), [5])

    def test_lists_that_are_not_ascending(self):
        net = Net(*KNOT)
        for paper in ([2, 1], [1, 1, 2], [1, 2, 2], [9, 8, 7, 2, 1], [1, 2, 9, 8, 7], [1, 2] * 200):
            self.expect(False, is_knot, net, paper)

    def test_strangers_and_leaves(self):
        net = Net(*KNOT)
        for bad in (0, 3, 5, 6, 10, -1, BIG, -BIG):
            self.expect(False, is_knot, net, sorted([1, 2, bad]))
            self.expect(False, is_knot, net, [bad])

    def test_other_kinds(self):
        net = Net(*KNOT)
        for paper in STRANGE + [(1, 2), [True, 2], [1, 2, None], [1, "2"], [1, [2]], [1, (2,)], [(1, 2)], [[1, 2]]]:
            self.expect(False, is_knot, net, paper)
            self.expect(False, is_knot, Net(*ONE_PLACE), paper)
        deep = [1, 2]
        for _ in range(58):
            deep = [deep]
        self.expect(False, is_knot, net, deep)
        self.expect(False, is_knot, net, [1, 2] + [deep])
        # A net in which 0 and 1 are a knot, for which False and True are no numbers.
        net = Net([(9, 8), (9, 7), (8, 1), (8, 0), (7, 1), (7, 0), (1, 5), (0, 6)], [(5, "b"), (6, "a")])
        self.expect(True, is_knot, net, [0, 1])
        for paper in ([False, 1], [0, True], [False, True]):
            self.expect(False, is_knot, net, paper)

    def test_all_parts_of_small_nets(self):
        many = 0
        for arrows, leaves in SAMPLES[:6] + [TOWER, UNDER] + random_nets(80, seed=83):
            inner = inner_of(arrows)
            if len(inner) < 8:
                net, found = Net(arrows, leaves), slow_knots(arrows, inner)
                for bits in range(2 ** len(inner)):
                    part = [place for k, place in enumerate(inner) if bits >> k & 1]
                    self.assertIs(is_knot(net, part), part in found)
                many += len(found)
        self.assertGreater(many, 50)

    def test_by_name(self):
        self.expect(True, is_knot, paper=[1, 2], net=Net(*KNOT))


class Greatest(Case):
    def test_the_example(self):
        self.expect([0, 1, 2, 4, 6], greatest_knot, read_newick("(((a)#1,(b)#2),(#1,#2));"))

    def test_small(self):
        for sample in (ONE_PLACE, CHERRY, DOC, caterpillar(12), UNDER):
            self.expect([], greatest_knot, Net(*sample))
            self.expect([], greatest_knot, Net(*sample), members=inner_of(sample[0]))
        self.expect([1, 2, 7, 8, 9], greatest_knot, Net(*KNOT))
        self.expect([0, 1, 2, 3, 4, 5], greatest_knot, Net(*TOWER))

    def test_members(self):
        net = Net(*KNOT)
        self.expect([], greatest_knot, net, members=[])
        self.expect([1, 2, 7, 8, 9], greatest_knot, net, members=None)
        self.expect([1, 2], greatest_knot, net, members=[2, 1])
        self.expect([1, 2], greatest_knot, net, members=[1, 2, 1, 2, 9])
        self.expect([1, 2, 7, 9], greatest_knot, net, members=[9, 7, 2, 1, 9])
        self.expect([], greatest_knot, net, members=[9, 8, 7, 2])
        self.expect([], greatest_knot, Net(*ONE_PLACE), members=[])
        self.expect([5], greatest_knot, Net(*TOWER), members=[5])

    def test_random_members(self):
        chance = random.Random(84)
        for arrows, leaves in SAMPLES + random_nets(300, seed=84):
            net, inner = Net(arrows, leaves), inner_of(arrows)
            if len(inner) < 9:
                self.expect(slow_greatest(arrows, inner), greatest_knot, net)
                members = chance.choices(inner, k=chance.randrange(2 * len(inner) + 1)) if inner else []
                self.expect(slow_greatest(arrows, members), greatest_knot, net, members=members)

    def test_it_is_empty_exactly_if_the_net_can_be_plucked_down(self):
        stuck = 0
        for arrows, leaves in SAMPLES + random_nets(500, seed=85):
            net = Net(arrows, leaves)
            found = self.call(greatest_knot, net)
            self.assertIs(found == [], not slow_stuck(arrows, leaves))
            self.assertIs(found == [], can_be_plucked(net))
            if found:
                stuck += 1
                self.assertTrue(slow_is_knot(arrows, found))
                self.assertTrue(is_knot(net, found))
                if len(net.inner()) < 8:
                    self.assertEqual(all_moments(net), [])
        self.assertGreater(stuck, 50)

    def test_the_rests_of_all_maximal_rows(self):
        stuck = 0
        for arrows, leaves in SAMPLES[:6] + random_nets(500, seed=86):
            if 3 < len(inner_of(arrows)) < 7 or slow_stuck(arrows, leaves) and len(inner_of(arrows)) < 10:
                knot = greatest_knot(Net(arrows, leaves))
                between = sorted((u, v) for u, v in arrows if u in knot and v in knot)
                for row in slow_maximal(arrows, leaves):
                    rest = ([(arrows, leaves)] + slow_follow(arrows, leaves, row)[0])[-1][0]
                    self.assertEqual(inner_of(rest), knot)
                    self.assertEqual(sorted((u, v) for u, v in rest if u in knot and v in knot), between)
                    stuck += knot != []
        self.assertGreater(stuck, 20)

    def test_a_long_list(self):
        net = Net(*greatest())
        members = net.inner() * 10
        self.expect(greatest_knot(net), greatest_knot, net, members=members)
        self.expect(net.inner()[:16], greatest_knot, net)

    def test_by_name(self):
        self.expect([1, 2], greatest_knot, members=[1, 2, 9], net=Net(*KNOT))
        self.expect([1, 2, 7, 8, 9], greatest_knot, net=Net(*KNOT))


class Core(Case):
    def test_small(self):
        self.expect([1, 2], knot_core, Net(*KNOT))
        self.expect([3, 4], knot_core, Net([(0, 1), (0, 2), (1, 3), (1, 4), (2, 3), (2, 4), (3, 5), (4, 6)],
                                           [(5, "a"), (6, "b")]))
        for sample in (ONE_PLACE, CHERRY, DOC, caterpillar(12), UNDER):
            self.expect([], knot_core, Net(*sample))

    def test_several_least_knots(self):
        # Places that stand early in the knot go first, so the core is made of later ones.
        first = [(9, 8), (9, 7), (8, 1), (8, 2), (7, 1), (7, 2), (1, 5), (2, 6)]
        second = [(u + 20, v + 20) for u, v in first]
        net = Net(first + second + [(50, 9), (50, 29)], [(5, "b"), (6, "a"), (25, "c"), (26, "d")])
        self.expect([21, 22], knot_core, net)
        net = Net([(60 - u, 60 - v) for u, v in net.arrows()], [(60 - place, name) for place, name in net.leaves()])
        self.expect([58, 59], knot_core, net)

    def test_random_nets(self):
        sizes = set()
        for arrows, leaves in SAMPLES + random_nets(400, seed=87):
            if len(inner_of(arrows)) < 10:
                core = self.call(knot_core, Net(arrows, leaves))
                self.assertEqual(core, slow_core(arrows))
                if core:
                    self.assertEqual(slow_knots(arrows, core), [core])
                sizes.add(len(core))
        self.assertGreater(len(sizes), 3)

    def test_large_nets(self):
        for sample in (stacked(8), greatest()):
            net = Net(*sample)
            core = self.call(knot_core, net)
            self.assertTrue(is_knot(net, core))
            for place in core:
                self.assertEqual(greatest_knot(net, members=[other for other in core if other != place]), [])

    def test_by_name(self):
        self.expect([1, 2], knot_core, net=Net(*KNOT))

    def test_equal_calls_behind_others(self):
        net, other = Net(*KNOT), Net(*TOWER)
        for _ in range(3):
            self.assertEqual(greatest_knot(net), [1, 2, 7, 8, 9])
            self.assertEqual(greatest_knot(net, members=[1, 2, 9]), [1, 2])
            self.assertEqual(knot_core(net), [1, 2])
            self.assertEqual(knot_rule(net, [2], 1), "mothers")
            self.assertEqual((greatest_knot(other, members=[5]), knot_core(other)), ([5], [5]))
            greatest_knot(net).append(3)
            knot_core(net).clear()
        self.assertEqual((net.arrows(), net.leaves()), (sorted(KNOT[0]), KNOT[1]))

    def test_names_do_not_matter(self):
        net = Net(KNOT[0], [(5, "zz"), (6, "a1")])
        self.expect([1, 2, 7, 8, 9], greatest_knot, net)
        self.expect([1, 2], knot_core, net)
