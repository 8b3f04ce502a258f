"""Pairs that can be plucked: point 23 and the heading levelgifts/pairs.py."""

import random

from checks import Case
from levelgifts.faults import NoLeaf, NoPair
from levelgifts.nets import Net
from levelgifts.newick import read_newick
from levelgifts.pairs import pair_places, pair_word, pairs
from samples import CHERRY, DOC, KNOT, ONE_PLACE, SAMPLES, SHORT, STACK, caterpillar, random_nets
from slow_rows import slow_pairs, slow_word

NO_LEAVES = ["", "z", "Q", "1", "ab", "a ", "\n", "x" * 4000, "A", "root", "0", "2"]


class Words(Case):
    def words(self, net):
        """The pairs of all names of the net that have a word, with it."""
        told = {(x, y): self.call(pair_word, net, (x, y)) for x in net.names() for y in net.names()}
        return {pair: word for pair, word in told.items() if word is not None}

    def test_sisters_in_both_orders(self):
        self.assertEqual(self.words(Net(*CHERRY)), {("a", "b"): "sister", ("b", "a"): "sister"})
        net = read_newick("((a,b),(c,d));")
        sisters = [("a", "b"), ("b", "a"), ("c", "d"), ("d", "c")]
        self.assertEqual(self.words(net), {pair: "sister" for pair in sisters})
        self.assertEqual(self.words(read_newick("((b,a),c);")), {("a", "b"): "sister", ("b", "a"): "sister"})

    def test_freed_pairs_in_one_order(self):
        self.assertEqual(self.words(Net(*DOC)), {("b", "a"): "freed", ("b", "c"): "freed"})
        # The other mother of the mixing is the root, and has no leaf.
        self.assertEqual(self.words(read_newick("((a,#1),(b)#1);")), {("b", "a"): "freed"})
        both = read_newick("(((a,b),(c)#1),(#1,d));")
        self.assertEqual(self.words(both), {("a", "b"): "sister", ("b", "a"): "sister", ("c", "d"): "freed"})

    def test_mothers_that_are_mother_and_child(self):
        # The lower one of the two mothers has the leaf that stays.
        self.assertEqual(self.words(Net(*SHORT)), {("x", "y1"): "freed"})
        # The lower one has a split instead, so only the sisters below that can be plucked.
        net = read_newick("(((a,b),(c)#1),#1);")
        self.assertEqual(self.words(net), {("a", "b"): "sister", ("b", "a"): "sister"})

    def test_pairs_that_are_neither(self):
        for text in ("a;", "((((a)#2)#1,#2),#1);", "(((a)#1,(b)#2),(#1,#2));"):
            self.assertEqual(self.words(read_newick(text)), {})
        # The child of the mixing is a split, the mother of the leaf is a mixing below a mixing.
        self.assertEqual(set(self.words(read_newick("((a,((b,c))#1),(#1,d));"))), {("b", "c"), ("c", "b")})
        self.assertEqual(self.words(read_newick("((a,((b)#1)#2),(c,(#1,#2)));")), {})
        # A mixing below the split and a leaf below another mixing right below that.
        self.assertEqual(self.words(read_newick("((((b)#2)#1,a),(#1,(#2,c)));")), {("b", "c"): "freed"})

    def test_a_name_twice(self):
        for arrows, leaves in SAMPLES:
            net = Net(arrows, leaves)
            for name in net.names():
                self.expect(None, pair_word, net, (name, name))
                self.refuses(NoPair, {"bad": (name, name)}, pair_places, net, (name, name))

    def test_leaves_with_one_mother_that_is_a_mixing(self):
        # Two leaves below two mixings of one split: neither can be plucked at it.
        self.assertEqual(self.words(Net(*KNOT)), {})
        self.assertEqual(self.words(Net(*STACK)), {("a", "zz"): "sister", ("zz", "a"): "sister"})

    def test_by_name(self):
        net = Net(*DOC)
        self.expect("freed", pair_word, pair=("b", "a"), net=net)
        self.expect([1, 3], pair_places, pair=("b", "a"), net=net)
        self.expect([("b", "a"), ("b", "c")], pairs, net=net)


class Lists(Case):
    def test_the_example(self):
        self.expect([("b", "a"), ("b", "c")], pairs, read_newick("((a,(b)#1),(#1,c));"))

    def test_none(self):
        self.expect([], pairs, Net(*ONE_PLACE))
        self.expect([], pairs, Net(*KNOT))

    def test_ascending_by_names(self):
        # The places stand in another order than the names.
        net = Net([(9, 8), (9, 1), (8, 7), (8, 2), (1, 5), (1, 6)], [(7, "a1"), (2, "aa"), (5, "b"), (6, "a")])
        self.expect([("a", "b"), ("a1", "aa"), ("aa", "a1"), ("b", "a")], pairs, net)
        names = ["a", "aa", "a1", "b1", "ba", "b"]
        for seed in range(20):
            chance = random.Random(seed)
            chance.shuffle(names)
            net = read_newick("((({},{}),({},{})),({},{}));".format(*names))
            found = self.call(pairs, net)
            self.assertEqual(found, sorted(found))
            self.assertEqual(len(found), 6)

    def test_places_that_plucking_takes_out(self):
        net = Net(*DOC)
        self.expect([1, 3], pair_places, net, ("b", "a"))
        self.expect([5, 3], pair_places, net, ("b", "c"))
        self.expect([4], pair_places, Net(*CHERRY), ("a", "b"))
        self.expect([4], pair_places, Net(*CHERRY), ("b", "a"))
        self.expect([3, 0], pair_places, Net(*SHORT), ("x", "y1"))
        self.expect([17], pair_places, Net(*STACK), ("zz", "a"))

    def test_random_nets(self):
        for arrows, leaves in SAMPLES + random_nets(400, seed=31):
            net = Net(arrows, leaves)
            self.expect(slow_pairs(arrows, leaves), pairs, net)
            for x in net.names():
                for y in net.names():
                    word = slow_word(arrows, leaves, (x, y))
                    self.assertEqual(pair_word(net, (x, y)), word)
                    if word is None:
                        self.refuses(NoPair, {"bad": (x, y)}, pair_places, net, (x, y))
                    else:
                        self.check_places(net, (x, y), word)

    def check_places(self, net, pair, word):
        x, y = [net.place_of(name) for name in pair]
        wanted = net.mothers(y) if word == "sister" else net.mothers(y) + net.mothers(x)
        self.expect(wanted, pair_places, net, pair)


class WrongNames(Case):
    def test_the_first_name_that_is_no_leaf(self):
        for arrows, leaves in SAMPLES[:6] + [caterpillar(12)]:
            net = Net(arrows, leaves)
            good = net.names()[0]
            for function in (pair_word, pair_places):
                for bad in NO_LEAVES:
                    if bad not in net.names():
                        self.refuses(NoLeaf, {"bad": bad}, function, net, (bad, good))
                        self.refuses(NoLeaf, {"bad": bad}, function, net, (good, bad))
                        self.refuses(NoLeaf, {"bad": bad}, function, net, (bad, bad))
                        self.refuses(NoLeaf, {"bad": bad}, function, net, (bad, "no leaf either"))
                        self.refuses(NoLeaf, {"bad": "no leaf either"}, function, net, ("no leaf either", bad))
