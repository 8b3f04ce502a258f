"""Plucking and putting back one pair: points 24 and 25 and the heading levelgifts/pluck.py."""

import random

from checks import Case, shown
from levelgifts.faults import BadName, NoLeaf, NoPair, TooMany
from levelgifts.nets import Net
from levelgifts.newick import read_newick, write_newick
from levelgifts.pluck import pluck, put_back
from samples import CHERRY, DOC, KNOT, ONE_PLACE, SAMPLES, SHORT, STACK, caterpillar, greatest, random_nets, stacked
from slow_rows import slow_pairs, slow_pluck, slow_put_back, slow_word

NO_NAMES = ["", "A", "1", "1a", " ", "a ", "a\n", "x" * 4000, "z" * 9, "a.b", "#1", "~"]


class Plucking(Case):
    def test_sisters(self):
        arrows, leaves = [(4, 9), (4, 2), (2, 30), (2, 3)], [(9, "a"), (30, "b"), (3, "a1")]
        net = Net(arrows, leaves)
        self.expect(Net([(4, 9), (4, 3)], [(9, "a"), (3, "a1")]), pluck, net, ("b", "a1"))
        self.expect(Net([(4, 9), (4, 30)], [(9, "a"), (30, "b")]), pluck, net, ("a1", "b"))

    def test_sisters_at_the_root(self):
        self.expect(Net([], [(2, "b")]), pluck, Net(*CHERRY), ("a", "b"))
        self.expect(Net([], [(9, "a")]), pluck, Net(*CHERRY), ("b", "a"))

    def test_sisters_below_a_mixing(self):
        net = Net(*STACK)
        self.expect(Net([(50, 6), (50, 30), (6, 30), (6, 4), (30, 4), (4, 2)], [(2, "zz")]), pluck, net, ("a", "zz"))

    def test_freed(self):
        net = Net(*DOC)
        left = Net([(0, 2), (0, 5), (5, 4), (5, 6)], [(2, "a"), (4, "b"), (6, "c")])
        self.expect(left, pluck, net, ("b", "a"))
        left = Net([(0, 1), (0, 6), (1, 2), (1, 4)], [(2, "a"), (4, "b"), (6, "c")])
        self.expect(left, pluck, net, ("b", "c"))

    def test_freed_where_both_arrows_come_from_one_place(self):
        self.expect(Net([(8, 5), (8, 9999)], [(5, "y1"), (9999, "x")]), pluck, Net(*SHORT), ("x", "y1"))
        net = Net([(1, 0), (1, 9), (0, 4), (0, 3), (4, 3), (4, 6), (3, 7)], [(9, "c"), (6, "b"), (7, "a")])
        left = Net([(1, 0), (1, 9), (0, 6), (0, 7)], [(9, "c"), (6, "b"), (7, "a")])
        self.expect(left, pluck, net, ("a", "b"))

    def test_freed_with_a_mother_at_the_root(self):
        # The other mother of the mixing is the root; then the mother above the split is it.
        net = read_newick("((((a,b),(c)#1),d),#1);")
        self.assertEqual(write_newick(pluck(pluck(net, ("a", "b")), ("c", "b"))), "((b,d),c);")
        net = read_newick("((a,#1),(b)#1);")
        self.expect(Net([(0, 2), (0, 4)], [(2, "a"), (4, "b")]), pluck, net, ("b", "a"))

    def test_freed_from_a_mixing_below_a_mixing(self):
        net = read_newick("((((b)#2)#1,a),(#1,(#2,c)));")
        left = pluck(net, ("b", "c"))
        self.assertEqual(write_newick(left), "(((b)#1,a),(#1,c));")
        self.assertEqual(left.leaves(), net.leaves())

    def test_pairs_that_cannot_be_plucked(self):
        for arrows, leaves in SAMPLES:
            net = Net(arrows, leaves)
            for x in net.names():
                for y in net.names():
                    if slow_word(arrows, leaves, (x, y)) is None:
                        self.refuses(NoPair, {"bad": (x, y)}, pluck, net, (x, y))

    def test_names_that_are_no_leaves(self):
        net = Net(*CHERRY)
        for bad in NO_NAMES + ["c", "ab"]:
            self.refuses(NoLeaf, {"bad": bad}, pluck, net, (bad, "a"))
            self.refuses(NoLeaf, {"bad": bad}, pluck, net, ("a", bad))
            self.refuses(NoLeaf, {"bad": bad}, pluck, net, (bad, bad))
            self.refuses(NoLeaf, {"bad": "zz"}, pluck, net, ("zz", bad))

    def test_random_nets(self):
        for arrows, leaves in SAMPLES + random_nets(300, seed=32):
            net = Net(arrows, leaves)
            for pair in slow_pairs(arrows, leaves):
                left = self.call(pluck, net, pair)
                self.assertEqual((left.arrows(), left.leaves()), slow_pluck(arrows, leaves, pair))

    def test_by_name(self):
        self.expect(Net([], [(2, "b")]), pluck, pair=("a", "b"), net=Net(*CHERRY))


class PuttingBack(Case):
    def test_a_new_name(self):
        # The least free numbers are 0 and 1, and the lesser one is the split.
        net = Net(*CHERRY)
        more = Net([(4, 0), (4, 2), (0, 9), (0, 1)], [(9, "a"), (2, "b"), (1, "c")])
        self.expect(more, put_back, net, ("c", "a"))
        more = Net([(4, 9), (4, 0), (0, 2), (0, 1)], [(9, "a"), (2, "b"), (1, "c")])
        self.expect(more, put_back, net, ("c", "b"))

    def test_a_leafs_name(self):
        # The split on the one arrow, the mixing on the other one.
        net = Net(*CHERRY)
        more = Net([(4, 0), (4, 1), (0, 9), (1, 2), (0, 1)], [(9, "a"), (2, "b")])
        self.expect(more, put_back, net, ("b", "a"))
        more = Net([(4, 0), (4, 1), (0, 2), (1, 9), (0, 1)], [(9, "a"), (2, "b")])
        self.expect(more, put_back, net, ("a", "b"))

    def test_the_one_place_net(self):
        self.expect(Net([(0, 7), (0, 1)], [(7, "a"), (1, "b")]), put_back, Net(*ONE_PLACE), ("b", "a"))
        self.expect(Net([(1, 0), (1, 2)], [(0, "a"), (2, "b")]), put_back, Net([], [(0, "a")]), ("b", "a"))
        self.expect(Net([(0, 1), (0, 2)], [(1, "a"), (2, "b")]), put_back, Net([], [(1, "a")]), ("b", "a"))

    def test_numbers(self):
        # 0, 2, 3 and 9999 are taken, so the new places are 1 and 4.
        net = Net([(9999, 0), (9999, 2), (2, 3), (2, 5)], [(0, "a"), (3, "b"), (5, "c")])
        more = put_back(net, ("d", "c"))
        self.assertEqual((more.mothers(5), more.mothers(4), more.mothers(1)), ([1], [1], [2]))
        more = put_back(net, ("a", "c"))
        self.assertEqual((more.mothers(0), more.mothers(4), more.mothers(1)), ([4], [1, 9999], [2]))

    def test_leaves_below_mixings(self):
        net = Net(*KNOT)
        more = Net([(9, 8), (9, 7), (8, 1), (8, 2), (7, 1), (7, 2), (1, 0), (0, 5), (0, 3), (2, 3), (3, 6)],
                   [(5, "b"), (6, "a")])
        self.expect(more, put_back, net, ("a", "b"))

    def test_a_name_that_is_none(self):
        # BadName goes ahead of all others, also of the bounds.
        for net in (Net(*ONE_PLACE), Net(*CHERRY), Net(*greatest())):
            for bad in NO_NAMES:
                for stays in (net.names()[0], "nobody", bad):
                    self.refuses(BadName, {"bad": bad}, put_back, net, (bad, stays))

    def test_a_leaf_that_is_missing(self):
        for net in (Net(*ONE_PLACE), Net(*CHERRY), Net(*greatest()), Net(*caterpillar(12))):
            for bad in NO_NAMES + ["zz", "b2"]:
                self.refuses(NoLeaf, {"bad": bad}, put_back, net, ("new", bad))
                self.refuses(NoLeaf, {"bad": bad}, put_back, net, (net.names()[0], bad))
            self.refuses(NoLeaf, {"bad": "new"}, put_back, net, ("new", "new"))

    def test_the_same_leaf(self):
        for net in (Net(*ONE_PLACE), Net(*CHERRY), Net(*greatest()), Net(*stacked(8))):
            for name in net.names():
                self.refuses(NoPair, {"bad": (name, name)}, put_back, net, (name, name))

    def test_bounds(self):
        net = Net(*caterpillar(12))
        self.refuses(TooMany, {"word": "leaves", "many": 13}, put_back, net, ("new", "n3"))
        self.assertEqual(len(self.call(put_back, net, ("n0", "n3")).mixings()), 1)
        self.assertEqual(len(self.call(put_back, Net(*caterpillar(11)), ("new", "n3")).names()), 12)
        net = Net(*stacked(8))
        net = put_back(net, ("b", "a"))
        self.refuses(TooMany, {"word": "mixings", "many": 9}, put_back, net, ("b", "a"))
        self.assertEqual(put_back(net, ("c", "a")).names(), ["a", "b", "c"])
        net = put_back(Net(*stacked(7)), ("b", "a"))
        self.assertEqual(len(self.call(put_back, net, ("b", "a")).mixings()), 8)
        net = Net(*greatest())
        self.refuses(TooMany, {"word": "leaves", "many": 13}, put_back, net, ("new", "n3"))
        self.refuses(TooMany, {"word": "mixings", "many": 9}, put_back, net, ("n0", "n3"))

    def test_random_nets(self):
        chance = random.Random(33)
        for arrows, leaves in SAMPLES[:6] + random_nets(300, seed=33):
            net = Net(arrows, leaves)
            for x in ["new", "x1", chance.choice(net.names())]:
                y = chance.choice(net.names())
                if x != y and not (x in net and len(net.mixings()) == 8) and not (x not in net and len(leaves) == 12):
                    more = self.call(put_back, net, (x, y))
                    self.assertEqual((more.arrows(), more.leaves()), slow_put_back(arrows, leaves, (x, y)))

    def test_by_name(self):
        self.expect(Net([(0, 7), (0, 1)], [(7, "a"), (1, "b")]), put_back, pair=("b", "a"), net=Net(*ONE_PLACE))


class ThereAndBack(Case):
    def test_plucking_behind_putting_back(self):
        for sample in SAMPLES + random_nets(200, seed=34):
            net = Net(*sample)
            for y in net.names():
                for x in net.names() + ["new"]:
                    if x == y or x in net and len(net.mixings()) == 8 or x not in net and len(net.names()) == 12:
                        continue
                    self.assertEqual(shown(pluck(put_back(net, (x, y)), (x, y))), shown(net))

    def test_putting_back_behind_plucking(self):
        for arrows, leaves in SAMPLES + random_nets(200, seed=35):
            net = Net(arrows, leaves)
            for pair in slow_pairs(arrows, leaves):
                self.check_alike(net, put_back(pluck(net, pair), pair), pair)

    def check_alike(self, net, again, pair):
        """The places that plucking took out are matched with the two new ones, and all others with themselves."""
        left = pluck(net, pair)
        out = [place for place in net.places() if place not in left.places()]
        new = [place for place in again.places() if place not in left.places()]
        split = net.mothers(net.place_of(pair[1]))[0]
        numbers = {split: new[0]}
        numbers.update({place: new[1] for place in out if place != split})
        arrows = sorted((numbers.get(u, u), numbers.get(v, v)) for u, v in net.arrows())
        leaves = sorted((numbers.get(place, place), name) for place, name in net.leaves())
        self.assertEqual((again.arrows(), again.leaves()), (arrows, leaves))
