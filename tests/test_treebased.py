"""Choices, supports and crowds: points 51 to 53 and 77 and the heading levelgifts/treebased.py."""

import random

from checks import Case
from levelgifts.faults import BadMoments
from levelgifts.nets import Net
from levelgifts.newick import read_newick
from levelgifts.treebased import find_crowd, find_support, is_choice, is_crowd, is_support, support_of_moments
from samples import CHERRY, DOC, KNOT, ONE_PLACE, SAMPLES, SHORT, STACK, caterpillar, greatest, random_nets, stacked
from slow_kinds import slow_choices, slow_crowds, slow_is_support, slow_supports
from slow_knots import inner_of
from slow_rows import mothers_of
from test_moments import BENT, FIT, timed_nets

BIG = 10 ** 59
# The mixings 1 and 2 with the mothers 7 and 8 each.
BOTH = [(1, 7), (2, 8)]
STRANGE = [None, True, False, 0, 1, BIG, "", "support", (), [None], [True], [1], ["a"], [[]], [()], [(1,)], [[1, 7], [2, 8]],
           [(1, 7), [2, 8]], [(1, 7, 8)], [("1", "7"), ("2", "8")], [(1, None), (2, None)], ((1, 7), (2, 8)), [[(1, 7)]]]
# Two splits above the one mixing 3 and the one mixing 4; the mothers of 5 are 3 and 4.
TOWER = ([(0, 1), (0, 2), (1, 3), (1, 4), (2, 3), (2, 4), (3, 5), (4, 5), (5, 6)], [(6, "a")])
# The mixing 5 stands above the mixing 6 here, which has the split 10 with a leaf as its other mother.
HIGHER = (TOWER[0][:-1] + [(9, 0), (9, 10), (5, 6), (10, 6), (10, 11), (6, 7)], [(7, "a"), (11, "b")])
# The mixings 0 and 1, for which False and True are no numbers.
LOW = ([(9, 8), (9, 7), (8, 1), (8, 0), (7, 1), (7, 0), (1, 5), (0, 6)], [(5, "b"), (6, "a")])


def chain_crowd(many):
    """The two lists of a net in which the mixings 40 and 41 and the splits between them share so many mixings."""
    arrows = [(k, 100 + k) for k in range(1, many + 1)] + [(40, 1), (41, many)]
    leaves = [(100 + k, f"m{k}") for k in range(1, many + 1)] + [(place + 10, f"p{place}") for place in (50, 51, 52, 53)]
    tops = [50, 51, 52, 53] + list(range(21, 20 + many))
    arrows += [(50, 40), (51, 40), (52, 41), (53, 41)] + [(place, place + 10) for place in (50, 51, 52, 53)]
    for k in range(1, many):
        arrows += [(20 + k, k), (20 + k, k + 1)]
    top = tops[0]
    for k, place in enumerate(tops[1:]):
        arrows += [(70 + k, top), (70 + k, place)]
        top = 70 + k
    return arrows, leaves


class Choices(Case):
    def test_small(self):
        net = Net(*KNOT)
        for choice in ([(1, 7), (2, 7)], [(1, 7), (2, 8)], [(1, 8), (2, 7)], [(1, 8), (2, 8)]):
            self.expect(True, is_choice, net, choice)
        self.expect(True, is_choice, Net(*DOC), [(3, 1)])
        self.expect(True, is_choice, Net(*DOC), [(3, 5)])

    def test_nets_without_mixings(self):
        for sample in (ONE_PLACE, CHERRY, caterpillar(12)):
            for judge in (is_choice, is_support):
                self.expect(True, judge, Net(*sample), [])
                for paper in STRANGE + [[(7, 7)], [(0, 0)]]:
                    self.expect(False, judge, Net(*sample), paper)

    def test_bent_papers(self):
        net = Net(*KNOT)
        for judge in (is_choice, is_support):
            for paper in ([], BOTH[:1], BOTH[1:], BOTH[::-1], BOTH + [(2, 8)], [(1, 7), (1, 8), (2, 8)], [(1, 7), (2, 9)],
                          [(1, 9), (2, 8)], [(1, 1), (2, 2)], [(1, 5), (2, 6)], [(1, 7), (8, 2)], [(1, 7), (2, 8), (9, 9)],
                          [(1, 7), (2, -8)], [(1, BIG), (2, 8)], [(-BIG, 7), (2, 8)], [(7, 1), (8, 2)], BOTH * 200):
                self.expect(False, judge, net, paper)
            for paper in STRANGE:
                self.expect(False, judge, net, paper)

    def test_truth_is_no_number(self):
        self.expect(True, is_support, Net(*LOW), [(0, 7), (1, 8)])
        for paper in ([(False, 7), (1, 8)], [(0, 7), (True, 8)], [(False, 7), (True, 8)]):
            self.expect(False, is_choice, Net(*LOW), paper)
            self.expect(False, is_support, Net(*LOW), paper)
        net = Net([(0, 1), (0, 2), (1, 2), (1, 3), (2, 4)], [(3, "a"), (4, "b")])
        for mother, wanted in ((0, True), (1, True), (False, False), (True, False)):
            self.expect(wanted, is_choice, net, [(2, mother)])

    def test_random_papers(self):
        chance, counts = random.Random(141), {True: 0, False: 0}
        for arrows, leaves in SAMPLES + random_nets(300, seed=141):
            net, choices = Net(arrows, leaves), slow_choices(arrows)
            for choice in chance.sample(choices, min(len(choices), 6)):
                self.expect(True, is_choice, net, choice)
                wanted = slow_is_support(arrows, choice)
                self.expect(wanted, is_support, net, choice)
                counts[wanted] += 1
            if choice:
                at = chance.randrange(len(choice))
                bad = list(choice)
                bad[at] = chance.choice([(choice[at][0], place) for place in net.places()] + [choice[0]])
                self.expect(bad in choices, is_choice, net, bad)
                self.expect(bad in choices and slow_is_support(arrows, bad), is_support, net, bad)
        self.assertGreater(min(counts.values()), 100)

    def test_by_name(self):
        self.expect(True, is_choice, paper=BOTH, net=Net(*KNOT))
        self.expect(True, is_support, paper=BOTH, net=Net(*KNOT))
        self.expect(False, is_support, paper=[(1, 7), (2, 7)], net=Net(*KNOT))


class Crowds(Case):
    def test_small(self):
        net = Net(*TOWER)
        self.expect(True, is_crowd, net, [3, 4])
        for paper in ([], [1], [2], [1, 2], [3], [4], [1, 2, 3], [5], [0], [3, 4, 5], [1, 3, 4], [0, 3, 4], [3, 4, 6]):
            self.expect(paper in slow_crowds(TOWER[0]), is_crowd, net, paper)
        self.expect(True, is_crowd, net, [1, 2, 3, 4])

    def test_a_child_that_is_no_mixing(self):
        # The places have four children with that of 10 that is a leaf.
        self.expect(True, is_crowd, Net(*HIGHER), [3, 4, 5])
        self.expect(True, is_crowd, Net(*HIGHER), [1, 2, 3, 4, 5])
        self.expect(False, is_crowd, Net(*HIGHER), [3, 4, 5, 10])
        self.expect(False, is_crowd, Net(*HIGHER), [1, 2, 3, 4, 5, 10])

    def test_places_that_have_other_children(self):
        # The children of 6 are the mixings 30 and 4, and that of 30 is 4.
        net = Net(*STACK)
        self.assertEqual(slow_crowds(STACK[0]), [])
        for paper in ([6], [30], [6, 30], [4], [6, 30, 50], [50], [17], [2, 99]):
            self.expect(False, is_crowd, net, paper)

    def test_bent_papers(self):
        net = Net(*TOWER)
        for paper in ([4, 3], [3, 3, 4], [3, 4, 4], [3, 4, 3], [3, 4, 7], [-1, 3, 4], [3, 4, BIG], [-BIG, 3, 4], [3, 4] * 200):
            self.expect(False, is_crowd, net, paper)
        for paper in STRANGE + [(3, 4), [(3, 4)], [[3, 4]], ["3", "4"], [3, None], [3, [4]], [None, 3, 4], [3, 4, None]]:
            self.expect(False, is_crowd, net, paper)
            self.expect(False, is_crowd, Net(*ONE_PLACE), paper)

    def test_truth_is_no_number(self):
        net = Net([(9, 7), (9, 8), (7, 0), (7, 1), (8, 0), (8, 1), (0, 2), (1, 2), (2, 6)], [(6, "a")])
        self.expect(True, is_crowd, net, [0, 1])
        for paper in ([False, 1], [0, True], [False, True]):
            self.expect(False, is_crowd, net, paper)

    def test_all_parts(self):
        many = 0
        for arrows, leaves in SAMPLES[:7] + [TOWER, chain_crowd(1), chain_crowd(2)] + random_nets(600, seed=142):
            inner = inner_of(arrows)
            if len(inner) < 6 or len(inner) < 11 and slow_crowds(arrows):
                net, crowds = Net(arrows, leaves), slow_crowds(arrows)
                for bits in range(2 ** len(inner)):
                    part = [place for k, place in enumerate(inner) if bits >> k & 1]
                    self.assertIs(is_crowd(net, part), part in crowds)
                many += len(crowds)
        self.assertGreater(many, 6)

    def test_by_name(self):
        self.expect(True, is_crowd, paper=[3, 4], net=Net(*TOWER))


class Found(Case):
    def check(self, arrows, leaves):
        """Exactly one of the two is there, and is right."""
        net = Net(arrows, leaves)
        support, crowd = self.call(find_support, net), self.call(find_crowd, net)
        self.assertEqual((support is None) + (crowd is None), 1)
        if crowd is None:
            self.assertIs(is_support(net, support), True)
            self.assertTrue(slow_is_support(arrows, support))
            self.assertIn(support, slow_choices(arrows))
        else:
            self.assertIs(is_crowd(net, crowd), True)
            self.assertIn(crowd, slow_crowds(arrows))
        return crowd is None

    def test_small(self):
        self.expect([], find_support, Net(*ONE_PLACE))
        self.expect(None, find_crowd, Net(*ONE_PLACE))
        self.expect([], find_support, Net(*caterpillar(12)))
        self.expect(None, find_support, Net(*TOWER))
        self.expect([3, 4], find_crowd, Net(*TOWER))
        self.assertIn(find_support(Net(*DOC)), ([(3, 1)], [(3, 5)]))

    def test_one_support_alone(self):
        seen = 0
        for arrows, leaves in random_nets(600, seed=146):
            supports = slow_supports(arrows)
            if len(supports) == 1 and supports[0]:
                self.expect(supports[0], find_support, Net(arrows, leaves))
                seen += 1
        self.assertGreater(seen, 5)

    def test_samples_and_random_nets(self):
        counts = {True: 0, False: 0}
        for arrows, leaves in SAMPLES + [TOWER, LOW, HIGHER] + random_nets(1200, seed=143):
            found = self.check(arrows, leaves)
            self.assertEqual(found, slow_supports(arrows) != [])
            self.assertEqual(found, slow_crowds(arrows) == [])
            counts[found] += 1
        self.assertGreater(min(counts.values()), 30)

    def test_chains_of_splits(self):
        chance = random.Random(145)
        for many in range(1, 7):
            for _ in range(10):
                arrows, leaves = chain_crowd(many)
                number = chance.sample(range(10000), 110)
                arrows = [(number[u], number[v]) for u, v in arrows]
                leaves = [(number[place], name) for place, name in leaves]
                self.assertFalse(self.check(arrows, leaves))
                self.expect(sorted(number[k] for k in [40, 41] + list(range(21, 20 + many))), find_crowd, Net(arrows, leaves))

    def test_splits_that_give_way(self):
        # A chain of splits above two mixings each, with as many splits as mixings and with one more.
        for many in range(3, 8):
            for numbers in (range(100), range(99, -1, -1)):
                number = list(numbers)
                mixings = [number[k] for k in range(many)]
                leaves = [(number[20 + k], "abcdefghi"[k]) for k in range(many)]
                arrows = [(mixing, place) for mixing, (place, name) in zip(mixings, leaves)]
                splits = [number[40 + k] for k in range(many)]
                for k, split in enumerate(splits):
                    arrows += [(split, mixings[k]), (split, mixings[(k + 1) % many])]
                top = splits[0]
                for k, split in enumerate(splits[1:]):
                    arrows += [(number[60 + k], top), (number[60 + k], split)]
                    top = number[60 + k]
                self.assertTrue(self.check(arrows, leaves))

    def test_by_name(self):
        self.expect([], find_support, net=Net(*CHERRY))
        self.expect([3, 4], find_crowd, net=Net(*TOWER))

    def test_equal_calls_behind_others(self):
        nets = [Net(*sample) for sample in SAMPLES + [TOWER]]
        before = [(find_support(net), find_crowd(net)) for net in nets]
        for net in nets:
            for paper in (find_support(net), find_crowd(net)):
                if paper:
                    paper.clear()
        self.assertEqual([(find_support(net), find_crowd(net)) for net in nets], before)


class OfMoments(Case):
    def test_small(self):
        self.expect([(3, 5)], support_of_moments, Net(*DOC), FIT)
        other = [(0, -5), (1, 1), (2, 9), (3, 2), (4, 3), (5, 2), (6, 3)]
        self.expect([(3, 1)], support_of_moments, Net(*DOC), other)
        self.expect([(0, 8)], support_of_moments, Net(*SHORT), [(0, 2), (3, 2), (5, 3), (8, 1), (9999, 3)])
        self.expect([], support_of_moments, Net(*ONE_PLACE), [(7, -BIG)])
        self.expect([], support_of_moments, Net(*CHERRY), [(2, 5), (4, 0), (9, 1)])
        self.expect([(3, 5)], support_of_moments, moments=FIT, net=Net(*DOC))

    def test_random_nets(self):
        mixed = 0
        for arrows, leaves, moments in timed_nets(300, seed=144):
            at, net = dict(moments), Net(arrows, leaves)
            found = self.call(support_of_moments, net, moments)
            wanted = [[u for u in mothers_of(arrows, place) if at[u] != at[place]] for place in net.mixings()]
            self.assertEqual(found, [(place, kept) for place, [kept] in zip(net.mixings(), wanted)])
            self.expect(True, is_support, net, found)
            mixed += len(found) > 1
        self.assertGreater(mixed, 20)

    def test_moments_that_do_not_fit(self):
        for paper, (word, at) in BENT:
            self.refuses(BadMoments, {"word": word, "at": at}, support_of_moments, Net(*DOC), paper)
        paper = [(1, 2), (2, 2), (5, 3), (6, 3), (7, 2), (8, 1), (9, 0)]
        self.refuses(BadMoments, {"word": "late", "at": 7}, support_of_moments, Net(*KNOT), paper)
        for paper in ([], [(7, True)], [(7, 0), (7, 0)], [[7, 0]], ((7, 0),), None):
            self.refuses(BadMoments, {"word": "form", "at": None}, support_of_moments, Net(*ONE_PLACE), paper)

    def test_great_nets(self):
        for sample in (stacked(8), greatest()):
            self.assertTrue(slow_is_support(sample[0], self.call(find_support, Net(*sample))))
            self.expect(None, find_crowd, Net(*sample))
