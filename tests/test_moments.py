"""What fitting moments tell: points 31 to 33 and 77 and the heading levelgifts/moments.py."""

import random

from checks import Case
from levelgifts import moments as functions
from levelgifts.faults import BadMoments, NoPlace
from levelgifts.moments import gifts, live_at, squeeze, tree_arrows, tree_leaves
from levelgifts.momentjudge import is_moments
from levelgifts.nets import Net
from levelgifts.newick import read_newick
from levelgifts.pluck import pluck_all
from samples import CHERRY, DOC, KNOT, ONE_PLACE, SAMPLES, SHORT, caterpillar, random_nets
from slow_moments import slow_gifts, slow_live, slow_moment_fault, slow_tree_arrows, slow_tree_leaves
from slow_rows import slow_least

FIT = [(0, 0), (1, 2), (2, 3), (3, 2), (4, 3), (5, 1), (6, 3)]
BIG = 10 ** 59
# Papers that do not fit the net DOC, each with the fault that is told.
BENT = [
    (None, ("form", None)), (True, ("form", None)), (0, ("form", None)), ("", ("form", None)), ([], ("form", None)),
    (tuple(FIT), ("form", None)), (FIT[::-1], ("form", None)), (FIT[1:], ("form", None)), (FIT + FIT, ("form", None)),
    ([list(pair) for pair in FIT], ("form", None)), ([(0, False)] + FIT[1:], ("form", None)),
    (FIT[:5] + [(5, True)] + FIT[6:], ("form", None)), (FIT[:6] + [(7, 3)], ("form", None)),
    (FIT[:6] + [(6, "3")], ("form", None)), (FIT + [(7, 3)], ("form", None)),
    (FIT[:6] + [(6, 1)], ("back", (5, 6))), (FIT[:6] + [(6, -1)], ("back", (5, 6))), ([(0, 1)] + FIT[1:], ("back", (0, 5))),
    (FIT[:3] + [(3, 3), (4, 4)] + FIT[5:], ("gift", 3)), (FIT[:5] + [(5, 2), (6, 3)], ("gift", 3)),
    ([(0, 0), (1, 1), (2, 3), (3, 2), (4, 3), (5, 1), (6, 1)], ("back", (5, 6))),
]


def fitting(chance, arrows, leaves):
    """Some moments that fit the net, or None if it cannot be plucked down."""
    row, rest = slow_least(arrows, leaves)
    if rest[0]:
        return None
    # What a pair takes out is earlier, by some moments, than what the pair before it took out.
    net, at, now = Net(arrows, leaves), {}, chance.randrange(-9, 9)
    ends = {place: now + chance.randrange(1, 9) for place, name in leaves}
    for k in range(len(row)):
        left = pluck_all(net, row[:k + 1])
        gone = set(pluck_all(net, row[:k]).inner()) - set(left.inner())
        at.update({place: now for place in gone})
        now -= chance.choice([1, 1, 2, 5])
    at.update(ends)
    return sorted(at.items())


def timed_nets(many, *, seed):
    """The samples and random nets that can be plucked down, as two lists and moments that fit."""
    chance = random.Random(seed)
    found = [(arrows, leaves, fitting(chance, arrows, leaves)) for arrows, leaves in SAMPLES + random_nets(many, seed=seed)]
    return [triple for triple in found if triple[2] is not None]


class Arrows(Case):
    def test_the_example(self):
        net = read_newick("((a,(b)#1),(#1,c));")
        self.expect([(1, 3)], gifts, net, [(0, 0), (1, 2), (2, 3), (3, 2), (4, 3), (5, 1), (6, 3)])

    def test_the_other_mother_gives(self):
        net = Net(*DOC)
        moments = [(0, -5), (1, 1), (2, 9), (3, 2), (4, 3), (5, 2), (6, 3)]
        self.expect([(5, 3)], gifts, net, moments)
        self.expect([(0, 1), (0, 5), (1, 2), (1, 3), (3, 4), (5, 6)], tree_arrows, net, moments)

    def test_nets_without_mixings(self):
        self.expect([], gifts, Net(*ONE_PLACE), [(7, 0)])
        self.expect([], tree_arrows, Net(*ONE_PLACE), [(7, -3)])
        self.expect([], gifts, Net(*CHERRY), [(2, 5), (4, 0), (9, 1)])
        self.expect([(4, 2), (4, 9)], tree_arrows, Net(*CHERRY), [(2, 5), (4, 0), (9, 1)])

    def test_mothers_that_are_mother_and_child(self):
        moments = [(0, 2), (3, 2), (5, 3), (8, 1), (9999, 3)]
        self.expect([(3, 0)], gifts, Net(*SHORT), moments)
        self.expect([(0, 9999), (3, 5), (8, 0), (8, 3)], tree_arrows, Net(*SHORT), moments)

    def test_several_gifts_at_one_moment(self):
        net = read_newick("(((a,(b)#1),(c,(d)#2)),((e,#1),(f,#2)));")
        at = {place: 9 for place in net.places()}
        at.update({place: 1 for place in net.children(net.root)})
        at[net.root] = 0
        givers = [net.mothers(place)[0] for place in net.mixings()]
        at.update({place: 5 for place in net.mixings() + givers})
        at.update({net.mothers(place)[1]: 3 for place in net.mixings()})
        found = sorted(zip(givers, net.mixings()))
        self.expect(found, gifts, net, sorted(at.items()))

    def test_random_nets(self):
        seen = 0
        for arrows, leaves, moments in timed_nets(300, seed=61):
            net = Net(arrows, leaves)
            self.assertIsNone(slow_moment_fault(arrows, leaves, moments))
            self.expect(slow_gifts(arrows, moments), gifts, net, moments)
            self.expect(slow_tree_arrows(arrows, moments), tree_arrows, net, moments)
            self.assertEqual([mixing for giver, mixing in sorted(gifts(net, moments), key=lambda g: g[1])], net.mixings())
            self.assertTrue(all(net.kind_of(giver) == "split" for giver, mixing in gifts(net, moments)))
            below = [child for mother, child in tree_arrows(net, moments)]
            self.assertEqual(sorted(below + [net.root]), net.places())
            seen += len(net.mixings()) > 1
        self.assertGreater(seen, 20)


class TreeLeaves(Case):
    def test_small(self):
        net = Net(*DOC)
        told = [tree_leaves(net, FIT, place) for place in net.places()]
        self.assertEqual(told, [["a", "b", "c"], ["a"], ["a"], ["b"], ["b"], ["b", "c"], ["c"]])
        self.expect(["b", "c"], tree_leaves, net, FIT, 5)
        self.expect(["a"], tree_leaves, Net(*ONE_PLACE), [(7, 0)], 7)

    def test_the_order_is_that_of_the_names(self):
        net = Net([(4, 9), (4, 2), (2, 30), (2, 3)], [(9, "a1"), (30, "b"), (3, "aa")])
        moments = [(2, 1), (3, 2), (4, 0), (9, 2), (30, 2)]
        self.expect(["a1", "aa", "b"], tree_leaves, net, moments, 4)
        self.expect(["aa", "b"], tree_leaves, net, moments, 2)

    def test_random_nets(self):
        for arrows, leaves, moments in timed_nets(200, seed=62):
            net = Net(arrows, leaves)
            for place in net.places():
                self.expect(slow_tree_leaves(arrows, leaves, moments, place), tree_leaves, net, moments, place)
            self.expect(net.names(), tree_leaves, net, moments, net.root)

    def test_no_place_goes_ahead(self):
        net = Net(*DOC)
        for bad in (7, -1, 9999, 10 ** 4, BIG, -BIG):
            self.refuses(NoPlace, {"bad": bad}, tree_leaves, net, FIT, bad)
            for paper, told in BENT:
                self.refuses(NoPlace, {"bad": bad}, tree_leaves, net, paper, bad)


class Lines(Case):
    def test_below_between_and_above(self):
        net = Net(*DOC)
        for moment in (0, -1, -2, -BIG):
            self.expect([0], live_at, net, FIT, moment)
        self.expect([1, 5], live_at, net, FIT, 1)
        self.expect([1, 3, 6], live_at, net, FIT, 2)
        self.expect([2, 4, 6], live_at, net, FIT, 3)
        for moment in (4, 5, BIG):
            self.expect([], live_at, net, FIT, moment)

    def test_leaves_that_end_apart(self):
        net = Net([(4, 9), (4, 2), (2, 30), (2, 3)], [(9, "a"), (30, "b"), (3, "c")])
        moments = [(2, 20), (3, 23), (4, 10), (9, 11), (30, 40)]
        wanted = {9: [4], 10: [4], 11: [2, 9], 12: [2], 20: [2], 21: [3, 30], 23: [3, 30], 24: [30], 40: [30], 41: []}
        for moment, lines in wanted.items():
            self.expect(lines, live_at, net, moments, moment)

    def test_the_one_place_net(self):
        for moment, lines in ((-BIG, [7]), (4, [7]), (5, [7]), (6, []), (BIG, [])):
            self.expect(lines, live_at, Net(*ONE_PLACE), [(7, 5)], moment)

    def test_random_nets(self):
        for arrows, leaves, moments in timed_nets(200, seed=63):
            net = Net(arrows, leaves)
            times = sorted({moment for place, moment in moments})
            for moment in {now + step for now in times for step in (-1, 0, 1)} | {times[0] - BIG, times[-1] + BIG}:
                self.expect(slow_live(arrows, leaves, moments, moment), live_at, net, moments, moment)
            self.check_ways(net, dict(moments), moments)

    def check_ways(self, net, at, moments):
        """On the way from the root to a leaf one line lives at each moment, and both ends of a gift live."""
        above = {child: mother for mother, child in tree_arrows(net, moments)}
        for place, name in net.leaves():
            way = [place]
            while way[-1] in above:
                way.append(above[way[-1]])
            for moment in range(at[net.root] - 2, at[place] + 1):
                self.assertEqual(len(set(live_at(net, moments, moment)) & set(way)), 1)
        for giver, mixing in gifts(net, moments):
            self.assertLessEqual({giver, mixing}, set(live_at(net, moments, at[mixing])))


class Squeezing(Case):
    def test_small(self):
        net = Net(*DOC)
        self.expect(FIT, squeeze, net, FIT)
        self.expect(FIT, squeeze, net, [(0, -BIG), (1, 4), (2, BIG), (3, 4), (4, BIG), (5, -7), (6, BIG)])
        moments = [(0, 10), (1, 20), (2, 40), (3, 20), (4, 30), (5, 11), (6, 12)]
        self.expect([(0, 0), (1, 3), (2, 5), (3, 3), (4, 4), (5, 1), (6, 2)], squeeze, net, moments)

    def test_the_one_place_net(self):
        for moment in (0, 1, -1, BIG):
            self.expect([(7, 0)], squeeze, Net(*ONE_PLACE), [(7, moment)])

    def test_random_nets(self):
        for arrows, leaves, moments in timed_nets(200, seed=64):
            net = Net(arrows, leaves)
            found = self.call(squeeze, net, moments)
            different = sorted({moment for place, moment in moments})
            self.assertEqual(found, [(place, different.index(moment)) for place, moment in moments])
            self.expect(True, is_moments, net, found)
            self.expect(found, squeeze, net, found)


class Wrong(Case):
    CALLS = (("gifts", ()), ("tree_arrows", ()), ("tree_leaves", (3,)), ("live_at", (1,)), ("squeeze", ()))

    def test_the_first_fault_of_moments_that_do_not_fit(self):
        net = Net(*DOC)
        for paper, (word, at) in BENT:
            self.assertEqual(slow_moment_fault(*DOC, paper), (word, at))
            for name, others in self.CALLS:
                function = getattr(functions, name)
                self.refuses(BadMoments, {"word": word, "at": at}, function, net, paper, *others)

    def test_late(self):
        paper = [(1, 2), (2, 2), (5, 3), (6, 3), (7, 2), (8, 1), (9, 0)]
        for name, others in self.CALLS:
            place = (7,) if name == "tree_leaves" else others
            self.refuses(BadMoments, {"word": "late", "at": 7}, getattr(functions, name), Net(*KNOT), paper, *place)

    def test_deep_and_long_papers(self):
        deep = []
        for _ in range(58):
            deep = [deep]
        for paper in (deep, [deep] + FIT, FIT * 200, [(0, 0)] * 400):
            for name, others in self.CALLS:
                told = {"word": "form", "at": None}
                self.refuses(BadMoments, told, getattr(functions, name), Net(*DOC), paper, *others)

    def test_by_name(self):
        net = Net(*DOC)
        self.expect([(1, 3)], gifts, moments=FIT, net=net)
        self.expect(tree_arrows(net, FIT), tree_arrows, moments=FIT, net=net)
        self.expect(["b", "c"], tree_leaves, place=5, moments=FIT, net=net)
        self.expect([1, 5], live_at, moment=1, moments=FIT, net=net)
        self.expect(FIT, squeeze, moments=FIT, net=net)

    def test_a_long_way_down(self):
        arrows, leaves = caterpillar(12)
        net = Net(arrows, leaves)
        moments = [(place, net.downward().index(place)) for place in net.places()]
        self.expect(net.names(), tree_leaves, net, moments, net.root)
        self.expect([], gifts, net, moments)

    def test_equal_calls_behind_others(self):
        net = Net(*DOC)
        before = [getattr(functions, name)(net, FIT, *others) for name, others in self.CALLS]
        other = [(0, -5), (1, 1), (2, 9), (3, 2), (4, 3), (5, 2), (6, 3)]
        for name, others in self.CALLS:
            getattr(functions, name)(net, other, *others)
        functions.all_moments(net, limit=60)
        self.assertEqual([getattr(functions, name)(net, FIT, *others) for name, others in self.CALLS], before)
        self.assertEqual((net.arrows(), net.leaves()), DOC)
