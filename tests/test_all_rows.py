"""All maximal rows: point 28 and `all_rows` of the heading levelgifts/pluck.py."""

from checks import Case
from levelgifts.faults import BadValue, TooMany
from levelgifts.nets import Net
from levelgifts.newick import read_newick
from levelgifts.pairs import pairs
from levelgifts.pluck import all_rows, can_be_plucked, is_row, least_row, pluck_all
from samples import CHERRY, DOC, KNOT, ONE_PLACE, SAMPLES, caterpillar, greatest, random_nets, stacked
from slow_rows import slow_maximal

BAD_LIMITS = [0, -1, 61, 62, 10 ** 59, -(10 ** 59)]


def inner_of(arrows):
    return len({u for u, v in arrows})


class Rows(Case):
    def test_small_nets(self):
        self.expect([[("a", "b")], [("b", "a")]], all_rows, Net(*CHERRY))
        found = [[("a", "b"), ("b", "c")], [("a", "b"), ("c", "b")], [("b", "a"), ("a", "c")], [("b", "a"), ("c", "a")]]
        self.expect(found, all_rows, read_newick("((a,b),c);"))
        b, c = ("b", "a"), ("b", "c")
        found = [[b, c, ("a", "c")], [b, c, ("c", "a")], [b, ("c", "b"), ("a", "b")], [b, ("c", "b"), ("b", "a")],
                 [c, ("a", "b"), ("b", "c")], [c, ("a", "b"), ("c", "b")], [c, b, ("a", "c")], [c, b, ("c", "a")]]
        self.expect(found, all_rows, Net(*DOC))

    def test_the_empty_row(self):
        for sample in (ONE_PLACE, KNOT, stacked(2), stacked(4)):
            self.expect([[]], all_rows, Net(*sample))
            self.expect([[]], all_rows, Net(*sample), limit=1)

    def test_a_rest_that_is_stuck(self):
        net = read_newick("((((d,a))#1,(b)#2),(#1,#2));")
        self.expect([[("a", "d")], [("d", "a")]], all_rows, net)

    def test_limits(self):
        net = Net(*DOC)
        found = all_rows(net)
        self.assertEqual(len(found), 8)
        for limit in range(1, 61):
            self.expect(found[:limit], all_rows, net, limit=limit)
        self.expect(found[:3], all_rows, limit=3, net=net)

    def test_more_rows_than_the_limit(self):
        net = Net(*caterpillar(9))
        wanted = [list(row) for row in sorted(slow_maximal(*caterpillar(9)))]
        self.assertEqual(len(wanted), 256)
        self.expect(wanted[:20], all_rows, net)
        for limit in (1, 19, 20, 21, 59, 60):
            self.expect(wanted[:limit], all_rows, net, limit=limit)

    def test_random_nets(self):
        seen = 0
        for arrows, leaves in SAMPLES + random_nets(500, seed=41):
            if inner_of(arrows) <= 6:
                wanted = [list(row) for row in sorted(slow_maximal(arrows, leaves))]
                seen += len(wanted) > 60
                for limit in {1, 20, 60, len(wanted) - 1, len(wanted), len(wanted) + 1} & set(range(1, 61)):
                    self.expect(wanted[:limit], all_rows, Net(arrows, leaves), limit=limit)
        self.assertGreater(seen, 5)

    def test_what_the_rows_are(self):
        for arrows, leaves in random_nets(200, seed=42):
            net = Net(arrows, leaves)
            if inner_of(arrows) <= 8:
                found = self.call(all_rows, net, limit=60)
                self.assertEqual(found[0], least_row(net)[0])
                self.assertEqual(found, sorted(found))
                self.assertEqual(len({tuple(row) for row in found}), len(found))
                for row in found:
                    self.assertEqual(pairs(pluck_all(net, row)), [])
                    self.assertIs(is_row(net, row), can_be_plucked(net))


class Bounds(Case):
    def test_the_limit(self):
        for bad in BAD_LIMITS:
            for sample in (ONE_PLACE, DOC, caterpillar(12), greatest()):
                self.refuses(BadValue, {"bad": bad}, all_rows, Net(*sample), limit=bad)

    def test_the_inner_places(self):
        for many in (10, 11, 12):
            told = {"word": "inner", "many": many - 1}
            self.refuses(TooMany, told, all_rows, Net(*caterpillar(many)))
            self.refuses(TooMany, told, all_rows, Net(*caterpillar(many)), limit=1)
        self.refuses(TooMany, {"word": "inner", "many": 10}, all_rows, Net(*stacked(5)))
        self.refuses(TooMany, {"word": "inner", "many": 27}, all_rows, Net(*greatest()), limit=60)
        self.assertEqual(len(self.call(all_rows, Net(*caterpillar(9)))), 20)
        self.expect([[]], all_rows, Net(*stacked(4)))

    def test_the_limit_is_passed_by_name_alone(self):
        with self.assertRaises(TypeError):
            all_rows(Net(*CHERRY), 5)
