"""All moments of a net: point 34 and `all_moments` of the heading levelgifts/moments.py."""

from checks import Case
from levelgifts.faults import BadValue, TooMany
from levelgifts.momentjudge import is_moments
from levelgifts.moments import all_moments
from levelgifts.nets import Net
from levelgifts.newick import read_newick
from levelgifts.pluck import can_be_plucked
from samples import CHERRY, DOC, KNOT, ONE_PLACE, SAMPLES, SHORT, STACK, caterpillar, greatest, random_nets, stacked
from slow_moments import slow_all

BAD_RANKS = [0, -1, 8, 9, 10 ** 59, -(10 ** 59)]
BAD_LIMITS = [0, -1, 61, 62, 10 ** 59, -(10 ** 59)]


def inner_of(arrows):
    return len({u for u, v in arrows})


class Papers(Case):
    def test_the_one_place_net(self):
        for ranks in range(1, 8):
            self.expect([[(7, ranks)]], all_moments, Net(*ONE_PLACE), ranks=ranks)
        self.expect([[(7, 7)]], all_moments, Net(*ONE_PLACE))

    def test_a_net_with_one_inner_place(self):
        self.expect([[(2, 7), (4, moment), (9, 7)] for moment in range(7)], all_moments, Net(*CHERRY))
        self.expect([[(2, 1), (4, 0), (9, 1)]], all_moments, Net(*CHERRY), ranks=1)
        self.expect([[(2, 7), (4, moment), (9, 7)] for moment in range(3)], all_moments, Net(*CHERRY), limit=3)

    def test_the_document_net(self):
        net = Net(*DOC)
        one = [(0, 0), (1, 1), (2, 3), (3, 2), (4, 3), (5, 2), (6, 3)]
        two = [(0, 0), (1, 2), (2, 3), (3, 2), (4, 3), (5, 1), (6, 3)]
        self.expect([one, two], all_moments, net, ranks=3)
        self.expect([], all_moments, net, ranks=2)
        self.expect([], all_moments, net, ranks=1)

    def test_the_order_is_that_of_the_places_downward(self):
        # The root is 9, then 5 comes ahead of 7 and its own lower split 3; 8 and 0 are leaves.
        net = Net([(9, 5), (9, 7), (7, 1), (7, 0), (5, 8), (5, 3), (3, 2), (3, 4)],
                  [(8, "e"), (1, "a"), (0, "b"), (2, "c"), (4, "d")])
        self.assertEqual([place for place in net.downward() if net.children(place)], [9, 5, 3, 7])
        found = self.call(all_moments, net, ranks=4, limit=60)
        moments = [[dict(paper)[place] for place in (9, 5, 3, 7)] for paper in found]
        rows = [[a, b, c, d] for a in range(4) for b in range(4) for c in range(4) for d in range(4)]
        self.assertEqual(moments, [row for row in rows if row[0] < row[1] < row[2] and row[0] < row[3]])

    def test_few_ranks(self):
        for many in range(2, 9):
            for ranks in range(1, many - 1):
                self.expect([], all_moments, Net(*caterpillar(many)), ranks=ranks)
            (only,) = self.call(all_moments, Net(*caterpillar(many)), ranks=many - 1)
            self.assertEqual([moment for place, moment in only if place % 2 == 0][:-1], list(range(many - 1)))

    def test_nets_without_fitting_moments(self):
        for sample in (KNOT, STACK, stacked(2), stacked(3)):
            for ranks in range(1, 8):
                self.expect([], all_moments, Net(*sample), ranks=ranks, limit=60)
        self.expect([], all_moments, read_newick("((((d,a))#1,(b)#2),(#1,#2));"))

    def test_limits(self):
        net = Net(*DOC)
        found = slow_all(*DOC, 4)
        self.assertEqual(len(found), 8)
        for limit in range(1, 61):
            self.expect(found[:limit], all_moments, net, ranks=4, limit=limit)
        found = slow_all(*DOC, 7)
        self.assertEqual(len(found), 70)
        self.expect(found[:20], all_moments, net)
        for limit in (1, 19, 20, 21, 59, 60):
            self.expect(found[:limit], all_moments, net, limit=limit)
        self.expect(found[:4], all_moments, limit=4, ranks=7, net=net)

    def test_the_ends_of_a_split_that_are_both_mixings(self):
        # A split may give to one of its two mixings, and to both never.
        net = read_newick("(((a,(b)#1),((c)#2,#1)),(#2,d));")
        found = self.call(all_moments, net, ranks=5, limit=60)
        self.assertEqual(found, slow_all(net.arrows(), net.leaves(), 5))
        self.assertTrue(found)

    def test_all_with_seven_inner_places(self):
        # 7 ** 7 papers are to be looked at, of which few fit.
        net = read_newick("((((a,(b)#1),(#1,(c)#2)),d),#2);")
        self.assertEqual(len(net.inner()), 7)
        wanted = slow_all(net.arrows(), net.leaves(), 5)
        self.assertEqual(len(wanted), 1)
        self.expect(wanted, all_moments, net, ranks=5, limit=60)
        found = self.call(all_moments, net, limit=60)
        self.assertEqual(len(found), 21)
        self.assertTrue(all([is_moments(net, paper) for paper in found]))

    def test_random_nets(self):
        seen = {"none": 0, "few": 0, "many": 0}
        for arrows, leaves in SAMPLES + random_nets(300, seed=71):
            inner = inner_of(arrows)
            if inner <= 5:
                for ranks in {1, max(inner, 1), 7 if inner < 5 else 3}:
                    wanted = slow_all(arrows, leaves, ranks)
                    seen["none" if not wanted else "few" if len(wanted) <= 60 else "many"] += 1
                    for limit in {1, 20, 60, len(wanted) - 1, len(wanted), len(wanted) + 1} & set(range(1, 61)):
                        self.expect(wanted[:limit], all_moments, Net(arrows, leaves), ranks=ranks, limit=limit)
        self.assertGreater(min(seen.values()), 1)

    def test_a_net_that_can_be_plucked_down_has_some(self):
        for arrows, leaves in SAMPLES + random_nets(300, seed=72):
            net, inner = Net(arrows, leaves), inner_of(arrows)
            if inner <= 7:
                found = self.call(all_moments, net, ranks=max(inner, 1), limit=1)
                self.assertIs(bool(found), can_be_plucked(net))
                self.assertTrue(all(is_moments(net, paper) for paper in found))


class Bounds(Case):
    def test_ranks(self):
        for sample in (ONE_PLACE, SHORT, caterpillar(12), greatest()):
            for bad in BAD_RANKS:
                self.refuses(BadValue, {"bad": bad}, all_moments, Net(*sample), ranks=bad)
                for limit in BAD_LIMITS + [1, 60]:
                    self.refuses(BadValue, {"bad": bad}, all_moments, Net(*sample), ranks=bad, limit=limit)

    def test_the_limit(self):
        for sample in (ONE_PLACE, SHORT, caterpillar(12), greatest()):
            for bad in BAD_LIMITS:
                self.refuses(BadValue, {"bad": bad}, all_moments, Net(*sample), limit=bad)
                for ranks in (1, 7):
                    self.refuses(BadValue, {"bad": bad}, all_moments, Net(*sample), limit=bad, ranks=ranks)

    def test_the_inner_places(self):
        for many in (9, 10, 12):
            told = {"word": "inner", "many": many - 1}
            self.refuses(TooMany, told, all_moments, Net(*caterpillar(many)))
            self.refuses(TooMany, told, all_moments, Net(*caterpillar(many)), ranks=1, limit=1)
        self.refuses(TooMany, {"word": "inner", "many": 8}, all_moments, Net(*stacked(4)))
        self.refuses(TooMany, {"word": "inner", "many": 27}, all_moments, Net(*greatest()), ranks=7, limit=60)
        self.assertEqual(len(self.call(all_moments, Net(*caterpillar(8)))), 1)

    def test_both_are_passed_by_name_alone(self):
        with self.assertRaises(TypeError):
            all_moments(Net(*CHERRY), 5)
