"""The two roads: points 35 to 37 and 77 and the heading levelgifts/roads.py."""

import random

from checks import Case, shown
from levelgifts.faults import BadMoments, BadRow
from levelgifts.moments import all_moments, gifts
from levelgifts.nets import Net
from levelgifts.newick import read_newick
from levelgifts.pluck import all_rows, put_back, rests
from levelgifts.roads import moments_of_row, row_of_moments
from samples import CHERRY, DOC, KNOT, ONE_PLACE, SAMPLES, SHORT, caterpillar, random_nets
from slow_moments import places_of, slow_gifts, slow_moment_fault
from slow_rows import mothers_of, random_row, slow_follow, slow_pairs, slow_pluck
from test_moments import BENT, BIG, FIT, timed_nets

ROW = [("b", "a"), ("b", "c"), ("a", "c")]


def inner_of(arrows):
    return {u for u, v in arrows}


def slow_row(arrows, leaves, moments):
    """Point 35."""
    at, row = dict(moments), []
    while arrows:
        latest = max(at[place] for place in inner_of(arrows))
        stays = {name for place, name in leaves if at[mothers_of(arrows, place)[0]] == latest}
        row.append(min(pair for pair in slow_pairs(arrows, leaves) if pair[1] in stays))
        arrows, leaves = slow_pluck(arrows, leaves, row[-1])
    return row


def slow_moments(arrows, leaves, row):
    """Point 36, for a full row."""
    at = {place: len(row) for place, name in leaves}
    nets = [(arrows, leaves)] + slow_follow(arrows, leaves, row)[0]
    for index in range(len(row)):
        gone = inner_of(nets[index][0]) - inner_of(nets[index + 1][0])
        at.update({place: len(row) - 1 - index for place in gone})
    return sorted(at.items())


def full_row(chance, arrows, leaves):
    """A full row of a net that can be plucked down, with random pairs."""
    row = []
    while arrows:
        row.append(chance.choice(slow_pairs(arrows, leaves)))
        arrows, leaves = slow_pluck(arrows, leaves, row[-1])
    return row


class RowOfMoments(Case):
    def test_small(self):
        net = Net(*DOC)
        self.expect(ROW, row_of_moments, net, FIT)
        other = [(0, -5), (1, 1), (2, 9), (3, 2), (4, 3), (5, 2), (6, 3)]
        self.expect([("b", "c"), ("a", "b"), ("b", "c")], row_of_moments, net, other)
        self.expect([], row_of_moments, Net(*ONE_PLACE), [(7, -3)])
        self.expect([("a", "b")], row_of_moments, Net(*CHERRY), [(2, 5), (4, 0), (9, 1)])
        moments = [(0, 2), (3, 2), (5, 3), (8, 1), (9999, 3)]
        self.expect([("x", "y1"), ("x", "y1")], row_of_moments, Net(*SHORT), moments)

    def test_the_latest_mother_and_not_the_least_pair(self):
        net = read_newick("((a,b),((c,d),e));")
        at = dict(zip(net.places(), [0, 1, 9, 9, 2, 5, 9, 9, 9]))
        self.expect([("c", "d"), ("d", "e"), ("a", "b"), ("b", "e")], row_of_moments, net, sorted(at.items()))
        at[1] = 7
        self.expect([("a", "b"), ("c", "d"), ("d", "e"), ("b", "e")], row_of_moments, net, sorted(at.items()))
        at[1] = 5
        self.expect([("a", "b"), ("c", "d"), ("d", "e"), ("b", "e")], row_of_moments, net, sorted(at.items()))
        at.update({place: at[place] + BIG for place in at})
        self.expect([("a", "b"), ("c", "d"), ("d", "e"), ("b", "e")], row_of_moments, net, sorted(at.items()))

    def test_the_mother_of_the_leaf_that_stays(self):
        # The pair ("a", "b") is the least one, and its mixing is late, but not its giver.
        net = read_newick("(((a)#1,(b,#1)),(c,d));")
        at = {net.root: 0, net.mothers(net.place_of("c"))[0]: 3}
        at.update({place: 9 for place, name in net.leaves()})
        at[net.mothers(net.place_of("b"))[0]] = at[net.mixings()[0]] = 2
        at[net.children(net.root)[0]] = 1
        row = self.call(row_of_moments, net, sorted(at.items()))
        self.assertEqual(row, [("c", "d"), ("a", "b"), ("a", "b"), ("b", "d")])

    def test_random_nets(self):
        seen = 0
        for arrows, leaves, moments in timed_nets(300, seed=71):
            net = Net(arrows, leaves)
            row = self.call(row_of_moments, net, moments)
            self.assertEqual(row, slow_row(arrows, leaves, moments))
            nets = list(rests(net, row))
            self.assertEqual(len((nets or [net])[-1].places()), 1)
            for left in nets:
                kept = [(place, moment) for place, moment in moments if place in left.places()]
                self.assertIsNone(slow_moment_fault(left.arrows(), left.leaves(), kept))
            seen += row != sorted(row)
        self.assertGreater(seen, 20)

    def test_all_moments_of_small_nets(self):
        for text in ("((a,(b)#1),(#1,c));", "(((a)#1,(b,#1)),c);", "((((a,b),(c)#1),d),#1);"):
            net = read_newick(text)
            for moments in all_moments(net, ranks=5, limit=60):
                self.assertEqual(row_of_moments(net, moments), slow_row(net.arrows(), net.leaves(), moments))

    def test_moments_that_do_not_fit(self):
        net = Net(*DOC)
        for paper, (word, at) in BENT:
            self.refuses(BadMoments, {"word": word, "at": at}, row_of_moments, net, paper)
        paper = [(1, 2), (2, 2), (5, 3), (6, 3), (7, 2), (8, 1), (9, 0)]
        self.refuses(BadMoments, {"word": "late", "at": 7}, row_of_moments, Net(*KNOT), paper)
        for paper in ([(7, True)], [(7, 0), (7, 0)], [[7, 0]], ((7, 0),), None, [(7, "0")]):
            self.refuses(BadMoments, {"word": "form", "at": None}, row_of_moments, Net(*ONE_PLACE), paper)


class MomentsOfRow(Case):
    def test_the_example(self):
        net = read_newick("((a,(b)#1),(#1,c));")
        self.expect(FIT, moments_of_row, net, [("b", "a"), ("b", "c"), ("a", "c")])

    def test_small(self):
        self.expect([(7, 0)], moments_of_row, Net(*ONE_PLACE), [])
        self.expect([(2, 1), (4, 0), (9, 1)], moments_of_row, Net(*CHERRY), [("b", "a")])
        self.expect([(0, 1), (3, 1), (5, 2), (8, 0), (9999, 2)], moments_of_row, Net(*SHORT), [("x", "y1"), ("y1", "x")])
        net = Net(*DOC)
        self.expect([(0, 0), (1, 1), (2, 3), (3, 2), (4, 3), (5, 2), (6, 3)], moments_of_row, net,
                    [("b", "c"), ("b", "a"), ("c", "a")])

    def test_all_rows_of_small_nets(self):
        for arrows, leaves in SAMPLES[:4] + [caterpillar(4)]:
            net = Net(arrows, leaves)
            for row in all_rows(net, limit=60):
                self.expect(slow_moments(arrows, leaves, row), moments_of_row, net, row)

    def test_random_nets(self):
        chance = random.Random(72)
        for arrows, leaves, _ in timed_nets(300, seed=72):
            net, row = Net(arrows, leaves), full_row(chance, arrows, leaves)
            moments = self.call(moments_of_row, net, row)
            self.assertEqual(moments, slow_moments(arrows, leaves, row))
            self.assertIsNone(slow_moment_fault(arrows, leaves, moments))
            self.assertEqual([place for place, moment in moments], places_of(arrows, leaves))
            self.check_gifts(net, row, gifts(net, moments))

    def check_gifts(self, net, row, found):
        """The gift into a mixing comes from the split that is taken out with it."""
        before = net
        for left in rests(net, row):
            gone = set(before.inner()) - set(left.inner())
            self.assertEqual(sorted(gone & set(net.mixings())), sorted(m for p, m in found if {p, m} == gone))
            before = left

    def test_rows_that_are_not_full(self):
        net = Net(*DOC)
        for many in range(3):
            self.refuses(BadRow, {"at": many}, moments_of_row, net, ROW[:many])
        self.refuses(BadRow, {"at": 0}, moments_of_row, Net(*CHERRY), [])
        self.refuses(BadRow, {"at": 0}, moments_of_row, Net(*KNOT), [])

    def test_pairs_that_cannot_be_plucked(self):
        net = Net(*DOC)
        for bad in (("a", "b"), ("a", "c"), ("b", "b"), ("", ""), ("b", "z"), ("z", "b"), ("x" * 4000, "A"), ("c", "b")):
            self.refuses(BadRow, {"at": 0}, moments_of_row, net, [bad])
            self.refuses(BadRow, {"at": 0}, moments_of_row, net, [bad] + ROW)
            self.refuses(BadRow, {"at": 0}, moments_of_row, Net(*KNOT), [bad, bad])
        for bad in (("b", "a"), ("a", "a"), ("", "b"), ("b", "a "), ("c", "a")):
            self.refuses(BadRow, {"at": 1}, moments_of_row, net, ROW[:1] + [bad])
            self.refuses(BadRow, {"at": 1}, moments_of_row, net, ROW[:1] + [bad, ("z", "z")])

    def test_pairs_behind_one_place(self):
        net = Net(*DOC)
        for bad in (("a", "c"), ("c", "c"), ("b", "c"), ("z", "c")):
            self.refuses(BadRow, {"at": 3}, moments_of_row, net, ROW + [bad])
            self.refuses(BadRow, {"at": 3}, moments_of_row, net, ROW + [bad] * 300)
            self.refuses(BadRow, {"at": 0}, moments_of_row, Net(*ONE_PLACE), [bad])
        self.refuses(BadRow, {"at": 0}, moments_of_row, Net(*ONE_PLACE), [("a", "a")])

    def test_random_rows(self):
        chance = random.Random(73)
        full = 0
        for arrows, leaves in SAMPLES + random_nets(200, seed=73):
            row = random_row(chance, arrows, leaves)
            if chance.random() < 0.5:
                names = [name for place, name in leaves] + ["q"]
                row.insert(chance.randrange(len(row) + 1), (chance.choice(names), chance.choice(names)))
            nets, at = slow_follow(arrows, leaves, row)
            if at is None and ([(arrows, leaves)] + nets)[-1][0]:
                at = len(row)
            if at is None:
                full += 1
                self.expect(slow_moments(arrows, leaves, row), moments_of_row, Net(arrows, leaves), row)
            else:
                self.refuses(BadRow, {"at": at}, moments_of_row, Net(arrows, leaves), row)
        self.assertGreater(full, 20)


class ThereAndBack(Case):
    def test_from_rows(self):
        chance, other = random.Random(74), 0
        for arrows, leaves, _ in timed_nets(200, seed=74):
            net, row = Net(arrows, leaves), full_row(chance, arrows, leaves)
            moments = moments_of_row(net, row)
            again = row_of_moments(net, moments)
            self.assertEqual(shown(moments_of_row(net, again)), shown(moments))
            other += again != row
        self.assertGreater(other, 20)

    def test_from_moments(self):
        for arrows, leaves, moments in timed_nets(200, seed=75):
            net = Net(arrows, leaves)
            again = moments_of_row(net, row_of_moments(net, moments))
            self.assertEqual(slow_gifts(arrows, again), slow_gifts(arrows, moments))
            before, after = dict(moments), dict(again)
            inner = inner_of(arrows)
            self.assertTrue(all(after[u] < after[v] for u in inner for v in inner if before[u] < before[v]))

    def test_by_name(self):
        self.expect(ROW, row_of_moments, moments=FIT, net=Net(*DOC))
        self.expect(FIT, moments_of_row, row=ROW, net=Net(*DOC))

    def test_equal_calls_behind_others(self):
        net = Net(*DOC)
        for _ in range(3):
            self.assertEqual(row_of_moments(net, FIT), ROW)
            self.assertEqual(moments_of_row(net, ROW), FIT)
            moments_of_row(net, [("b", "c"), ("b", "a"), ("c", "a")])
            row_of_moments(net, [(0, -5), (1, 1), (2, 9), (3, 2), (4, 3), (5, 2), (6, 3)])
        self.assertEqual((net.arrows(), net.leaves()), DOC)

    def test_the_greatest_nets(self):
        arrows, leaves = caterpillar(12)
        net = Net(arrows, leaves)
        for k in range(8):
            net = put_back(net, (f"n{k}", f"n{11 - k}"))
        self.assertEqual((len(net.arrows()), len(net.mixings())), (46, 8))
        chance = random.Random(76)
        for _ in range(5):
            row = full_row(chance, net.arrows(), net.leaves())
            moments = self.call(moments_of_row, net, row)
            self.assertEqual(moments_of_row(net, self.call(row_of_moments, net, moments)), moments)
