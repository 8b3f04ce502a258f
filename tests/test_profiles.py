"""Counts of ways and profiles: points 44 to 46 and the heading levelgifts/profiles.py."""

import random

from checks import Case
from levelgifts.faults import NoPlace, Unlike
from levelgifts.nets import Net, renumber
from levelgifts.newick import read_newick
from levelgifts.pluck import can_be_plucked, pluck, put_back
from levelgifts.profiles import is_profile_of, is_stack_free, profile, profile_gap, ways
from levelgifts.stuck import alike
from samples import CHERRY, DOC, KNOT, ONE_PLACE, SAMPLES, SHORT, STACK, caterpillar, greatest, random_nets, stacked
from slow_profiles import slow_gap, slow_profile, slow_stack_free, slow_ways
from slow_rows import slow_pairs

BIG = 10 ** 59
PAPER = (["a", "b", "c"], [(0, 1, 0), (0, 1, 1), (1, 1, 0), (1, 2, 1)])
# Plain values of other kinds than that of a profile.
STRANGE = [None, True, 0, 1, -1, BIG, "", "a", (), [], [[], []], ((), ()), ([],), ([], [], []), ("a", [(1,)]), (["a"], None),
           (["a"], ""), ([None], [(1,)]), ([["a"]], [(1,)]), ([("a",)], []), (["a"], [1]), (["a"], [[1]]), (["a"], ["1"]),
           (["a"], [(None,)]), (["a"], [("1",)]), (["a"], [((1,),)]), (["a"], ((1,),)), (("a",), [(1,)]),
           (None, [(1,)]), (1, []), (True, []), (["a"], 1), (["a"], True)]


def bent(paper):
    """Papers that differ from the profile at one place."""
    names, rows = paper
    found = [[names, rows], (rows, names), (names,), (names, rows, []), (tuple(names), rows), (names, tuple(rows)),
             (names + ["q9"], rows), (names[1:], rows), (names, rows + [()]), (names, rows + [None]), (names[:-1] + ["~"], rows)]
    if rows:
        found += [(names, rows + [rows[-1]]), (names, rows[1:]), (names, rows[:-1]), (names, [list(row) for row in rows]),
                  (names, [row + (0,) for row in rows]), (names, [row[1:] for row in rows])]
    if len(names) > 1:
        found.append((names[::-1], [row[::-1] for row in rows]))
    if sorted(rows) != sorted(rows, reverse=True):
        found.append((names, rows[::-1]))
    for k, row in enumerate(rows):
        for at, count in enumerate(row):
            for other in (count + 1, -count - 1, BIG, str(count), None, (count,)) + (bool(count),) * (count in (0, 1)):
                found.append((names, rows[:k] + [row[:at] + (other,) + row[at + 1:]] + rows[k + 1:]))
    for k, name in enumerate(names):
        for other in (name + "x", name.upper(), "", None, 0, [name], (name,)):
            found.append((names[:k] + [other] + names[k + 1:], rows))
    return found


class Ways(Case):
    def test_small(self):
        net = Net(*DOC)
        wanted = [(1, 2, 1), (1, 1, 0), (1, 0, 0), (0, 1, 0), (0, 1, 0), (0, 1, 1), (0, 0, 1)]
        for place, row in enumerate(wanted):
            self.expect(row, ways, net, place)
        self.expect((1,), ways, Net(*ONE_PLACE), 7)
        self.expect((0, 1), ways, Net(*SHORT), 5)
        self.expect((1, 1), ways, Net(*SHORT), 3)
        self.expect((2, 1), ways, Net(*SHORT), 8)

    def test_the_order_is_that_of_the_names(self):
        net = Net([(4, 9), (4, 2), (2, 30), (2, 3)], [(9, "b"), (30, "a1"), (3, "aa")])
        wanted = {4: (1, 1, 1), 2: (1, 1, 0), 30: (1, 0, 0), 3: (0, 1, 0), 9: (0, 0, 1)}
        for place, row in wanted.items():
            self.expect(row, ways, net, place)

    def test_great_counts(self):
        for many in (2, 5, 8):
            arrows, leaves = stacked(many)
            net = Net(arrows, leaves)
            for place in net.places():
                self.expect(slow_ways(arrows, leaves, place), ways, net, place)
        text = "a"
        for mark in range(1, 9):
            text = f"((({text})#{mark},b{mark}),#{mark})"
        net = read_newick(text + ";")
        self.expect((256, 128, 64, 32, 16, 8, 4, 2, 1), ways, net, net.root)

    def test_random_nets(self):
        seen = 0
        for arrows, leaves in SAMPLES + random_nets(300, seed=111):
            net = Net(arrows, leaves)
            for place in net.places():
                row = self.call(ways, net, place)
                self.assertEqual(row, slow_ways(arrows, leaves, place))
                seen = max(seen, *row)
        self.assertGreater(seen, 4)

    def test_no_place(self):
        for sample in (ONE_PLACE, DOC, SHORT, greatest()):
            net = Net(*sample)
            for bad in (-1, 8888, 9998, 10 ** 4, BIG, -BIG):
                self.refuses(NoPlace, {"bad": bad}, ways, net, bad)

    def test_by_name(self):
        self.expect((1, 2, 1), ways, place=0, net=Net(*DOC))


class Profiles(Case):
    def test_the_example(self):
        self.expect(PAPER, profile, read_newick("((a,(b)#1),(#1,c));"))

    def test_small(self):
        self.expect((["a"], []), profile, Net(*ONE_PLACE))
        self.expect((["a", "b"], [(1, 1)]), profile, Net(*CHERRY))
        self.expect((["a", "b"], [(0, 1), (1, 0), (1, 1), (1, 1), (2, 2)]), profile, Net(*KNOT))
        self.expect((["a"], [(1,), (1,), (2,), (3,)]), profile, Net(*stacked(2)))
        self.expect(PAPER, profile, net=Net(*DOC))

    def test_random_nets(self):
        for arrows, leaves in SAMPLES + random_nets(300, seed=112):
            self.expect(slow_profile(arrows, leaves), profile, Net(arrows, leaves))

    def test_stack_free(self):
        for sample, wanted in ((ONE_PLACE, True), (CHERRY, True), (DOC, True), (SHORT, True), (KNOT, True), (STACK, False),
                               (stacked(2), False), (greatest(), False), (caterpillar(12), True)):
            self.expect(wanted, is_stack_free, Net(*sample))
        self.expect(False, is_stack_free, net=Net(*STACK))

    def test_stack_free_random_nets(self):
        counts = {True: 0, False: 0}
        for arrows, leaves in random_nets(300, seed=113):
            wanted = slow_stack_free(arrows)
            self.expect(wanted, is_stack_free, Net(arrows, leaves))
            counts[wanted] += len(Net(arrows, leaves).mixings()) > 1
            for pair in slow_pairs(arrows, leaves):
                self.assertTrue(is_stack_free(pluck(Net(arrows, leaves), pair)) or not wanted)
        self.assertGreater(min(counts.values()), 20)


class Judge(Case):
    def test_right_papers(self):
        for sample in SAMPLES + random_nets(100, seed=114):
            self.expect(True, is_profile_of, Net(*sample), slow_profile(*sample))
        self.expect(True, is_profile_of, paper=PAPER, net=Net(*DOC))

    def test_bent_papers(self):
        for sample in SAMPLES[:7] + random_nets(10, seed=115):
            for paper in bent(slow_profile(*sample)):
                self.expect(False, is_profile_of, Net(*sample), paper)

    def test_other_kinds(self):
        for paper in STRANGE:
            for sample in (ONE_PLACE, CHERRY, DOC):
                self.expect(False, is_profile_of, Net(*sample), paper)
        deep = PAPER
        for _ in range(56):
            deep = (deep, [])
        self.expect(False, is_profile_of, Net(*DOC), deep)
        self.expect(False, is_profile_of, Net(*DOC), (PAPER[0], PAPER[1] * 90))


class Gaps(Case):
    def test_small(self):
        net = Net(*DOC)
        self.expect(0, profile_gap, net, net)
        self.expect(0, profile_gap, Net(*ONE_PLACE), read_newick("a;"))
        self.expect(0, profile_gap, net, read_newick("((c,#1),((b)#1,a));"))
        self.expect(2, profile_gap, read_newick("((a,b),c);"), read_newick("(a,(b,c));"))
        self.expect(4, profile_gap, net, read_newick("((a,b),c);"))
        self.expect(4, profile_gap, read_newick("((a,b),c);"), net)
        self.expect(4, profile_gap, Net(*stacked(2)), read_newick("a;"))

    def test_equal_rows_are_taken_away_one_by_one(self):
        # The rows of ways to a, b are 01 10 11 11 22 and 11.
        self.expect(4, profile_gap, Net(*KNOT), Net(*CHERRY))
        self.expect(4, profile_gap, Net(*CHERRY), Net(*KNOT))
        # The rows of ways to a are 1 1 2 3 and 1 1 1 2 3 5.
        self.expect(slow_gap(stacked(2), stacked(3)), profile_gap, Net(*stacked(2)), Net(*stacked(3)))

    def test_unlike(self):
        first, second = Net(*DOC), Net(*CHERRY)
        self.refuses(Unlike, {"bad": "c"}, profile_gap, first, second)
        self.refuses(Unlike, {"bad": "c"}, profile_gap, second, first)
        for one, other, bad in (("(b,d);", "(c,b);", "c"), ("(b,c);", "(d,b);", "c"), ("a;", "b;", "a"), ("b;", "a;", "a"),
                                ("(aa,b);", "(a1,ba);", "a1"), ("(b,ba);", "b;", "ba"), ("(c,(d,e));", "(c,(a,d));", "a")):
            self.refuses(Unlike, {"bad": bad}, profile_gap, read_newick(one), read_newick(other))

    def test_random_nets(self):
        chance, seen = random.Random(116), {}
        samples = [(arrows, leaves) for arrows, leaves in random_nets(300, seed=116) if len(leaves) < 5]
        for one in samples:
            arrows, leaves = chance.choice(samples)
            names = [name for place, name in one[1]] + ["q", "r", "s", "t"]
            if len(leaves) == len(one[1]) or chance.random() < 0.2:
                leaves = [(place, name) for (place, _), name in zip(leaves, names)]
            first, second = Net(*one), Net(arrows, leaves)
            missing = sorted(set(first.names()) ^ set(second.names()))
            if missing:
                self.refuses(Unlike, {"bad": missing[0]}, profile_gap, first, second)
            else:
                gap = self.call(profile_gap, first, second)
                self.assertEqual(gap, slow_gap(one, (arrows, leaves)))
                self.check_likeness(first, second, gap)
                seen[gap] = True
        self.assertGreater(len(seen), 5)

    def check_likeness(self, first, second, gap):
        nets = (first, second)
        if all([is_stack_free(net) and can_be_plucked(net) for net in nets]):
            self.assertIs(alike(first, second), gap == 0)

    def test_alike_nets(self):
        chance = random.Random(117)
        for sample in SAMPLES + random_nets(100, seed=117):
            net = Net(*sample)
            numbers = chance.sample(range(10000), len(net.places()))
            self.expect(0, profile_gap, net, renumber(net, list(zip(net.places(), numbers))))

    def test_great_nets(self):
        net = Net(*caterpillar(12))
        for k in range(8):
            net = put_back(net, (f"n{k}", f"n{11 - k}"))
        gap = self.call(profile_gap, net, Net(*greatest()))
        self.assertEqual(gap, slow_gap((net.arrows(), net.leaves()), greatest()))

    def test_by_name(self):
        self.expect(2, profile_gap, second=read_newick("((a,b),c);"), first=read_newick("(a,(b,c));"))

    def test_equal_calls_behind_others(self):
        net = Net(*DOC)
        for _ in range(3):
            self.assertEqual(profile(net), PAPER)
            for part in profile(net):
                part.clear()
            self.assertEqual((ways(net, 0), profile_gap(net, net)), ((1, 2, 1), 0))
            profile(Net(*KNOT))
