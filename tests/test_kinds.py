"""Kinds of nets, blobs and the level: points 49 and 50 and the heading levelgifts/kinds.py."""

from checks import Case
from levelgifts.faults import BadValue
from levelgifts.kinds import blobs, holds, inside, kinds_of, level, parting_net
from levelgifts.nets import Net
from levelgifts.newick import read_newick
from samples import CHERRY, DOC, KNOT, ONE_PLACE, SAMPLES, SHORT, STACK, caterpillar, greatest, random_nets, stacked
from slow_kinds import mixings_of, slow_blobs, slow_kinds, slow_level

WORDS = ["tree", "tree child", "pluckable", "tree based", "stack free"]
INSIDE = {
    "tree": WORDS,
    "tree child": ["tree child", "pluckable", "tree based", "stack free"],
    "pluckable": ["pluckable", "tree based"],
    "tree based": ["tree based"],
    "stack free": ["tree based", "stack free"],
}
BIG = 10 ** 59
STRANGE = [None, True, False, 0, 1, BIG, "", " ", "Tree", "tree ", "treechild", "tree  child", "tree-child", "x" * 4000, [],
           (), ["tree"], ("tree",), [["tree"]], ("tree", "tree child"), [None], [[], [()]], WORDS, tuple(WORDS)]


def deep(value):
    for _ in range(58):
        value = [value]
    return value


class Kinds(Case):
    def test_small(self):
        texts = {
            "a;": WORDS,
            "((a,b),(c,d));": WORDS,
            "((a,(b)#1),(#1,c));": WORDS[1:],
            "((a,((b)#2)#1),(#1,(#2,c)));": ["pluckable", "tree based"],
            "(((a)#1,(b)#2),(#1,#2));": ["tree based", "stack free"],
            # Pluckable and stack free, with a split above two mixings.
            "((a,(b)#1),((#1,(c)#2),(#2,d)));": ["pluckable", "tree based", "stack free"],
            # No kind at all.
            "((((a)#3)#1,(#3)#2),(#1,#2));": [],
            # A split above a mixing and a split: tree child.
            "((#1,a),((b)#1,c));": WORDS[1:],
        }
        for text, kinds in texts.items():
            net = read_newick(text)
            self.expect(kinds, kinds_of, net)
            for word in WORDS:
                self.expect(word in kinds, holds, net, word)

    def test_samples(self):
        for sample, kinds in ((ONE_PLACE, WORDS), (CHERRY, WORDS), (caterpillar(12), WORDS), (DOC, WORDS[1:]),
                              (SHORT, WORDS[1:]), (STACK, ["tree based"]), (KNOT, ["tree based", "stack free"]), (stacked(2), ["tree based"])):
            self.assertEqual(slow_kinds(*sample), kinds)
            self.expect(kinds, kinds_of, Net(*sample))

    def test_random_nets(self):
        seen = {}
        for arrows, leaves in SAMPLES + random_nets(500, seed=131):
            kinds = slow_kinds(arrows, leaves)
            self.expect(kinds, kinds_of, Net(arrows, leaves))
            seen[tuple(kinds)] = True
            for word in WORDS:
                self.expect(word in kinds, holds, Net(arrows, leaves), word)
                self.assertTrue(word not in kinds or set(INSIDE[word]) <= set(kinds))
        self.assertGreater(len(seen), 6)

    def test_strange_words(self):
        for sample in (ONE_PLACE, DOC, KNOT):
            for bad in STRANGE + [deep("tree")]:
                self.refuses(BadValue, {"bad": bad}, holds, Net(*sample), bad)

    def test_by_name(self):
        self.expect(True, holds, kind="tree", net=Net(*CHERRY))
        self.expect(WORDS, kinds_of, net=Net(*CHERRY))

    def test_equal_calls_behind_others(self):
        for _ in range(3):
            self.assertEqual(kinds_of(Net(*DOC)), WORDS[1:])
            kinds_of(Net(*DOC)).clear()
            self.assertEqual(kinds_of(Net(*CHERRY)), WORDS)
            self.assertEqual([inside("tree", "pluckable"), inside("pluckable", "tree")], [True, False])


class Inside(Case):
    def test_every_two_words(self):
        for first in WORDS:
            for second in WORDS:
                self.expect(second in INSIDE[first], inside, first, second)

    def test_parting_nets(self):
        for first in WORDS:
            for second in WORDS:
                text = self.call(parting_net, first, second)
                if second in INSIDE[first]:
                    self.assertIsNone(text)
                    continue
                self.assertIs(type(text), str)
                net = read_newick(text)
                self.assertLessEqual(len(net.leaves()), 6)
                kinds = slow_kinds(net.arrows(), net.leaves())
                self.assertIn(first, kinds)
                self.assertNotIn(second, kinds)

    def test_strange_words(self):
        for function in (inside, parting_net):
            for bad in STRANGE + [deep([])]:
                for word in WORDS:
                    self.refuses(BadValue, {"bad": bad}, function, bad, word)
                    self.refuses(BadValue, {"bad": bad}, function, word, bad)
                self.refuses(BadValue, {"bad": bad}, function, bad, "x")
                self.refuses(BadValue, {"bad": "x"}, function, "x", bad)
                self.refuses(BadValue, {"bad": ["y"]}, function, ["y"], bad)
            for bad in ("", "Tree", None, True, 0):
                self.refuses(BadValue, {"bad": bad}, function, bad, bad)

    def test_by_name(self):
        self.expect(True, inside, second="tree based", first="stack free")
        self.expect(False, inside, second="stack free", first="tree based")
        self.expect(None, parting_net, second="tree based", first="stack free")
        self.assertNotIn("stack free", kinds_of(read_newick(parting_net(second="stack free", first="tree based"))))


class Blobs(Case):
    def check(self, wanted, many, net):
        self.expect(wanted, blobs, net)
        self.expect(many, level, net)

    def test_trees(self):
        for sample in (ONE_PLACE, CHERRY, caterpillar(12)):
            self.check([], 0, Net(*sample))
        self.check([], 0, read_newick("(((a,b),(c,d)),e);"))

    def test_one_mixing(self):
        self.check([[0, 1, 3, 5]], 1, Net(*DOC))
        self.check([[0, 3, 8]], 1, Net(*SHORT))
        # The root and what is below the mixing are in no blob.
        self.check([[1, 2, 4, 8]], 1, read_newick("(((a,((b,c))#1),(#1,d)),e);"))

    def test_several_mixings_in_one_blob(self):
        self.check([[1, 2, 7, 8, 9]], 2, Net(*KNOT))
        self.check([[4, 6, 30, 50]], 2, Net(*STACK))
        self.check([list(range(16))], 8, Net(*stacked(8)))
        self.check([list(range(16))], 8, Net(*greatest()))

    def test_several_blobs(self):
        net = read_newick("((((a)#1,(b)#2),(#1,#2)),((c,(d)#3),(#3,e)));")
        self.check([[1, 2, 3, 5, 7], [8, 9, 11, 13]], 2, net)
        # The one below a mixing of the other one, and then with the greater number of mixings.
        net = read_newick("((a,((((b)#1,(c)#2),(#1,#2)))#3),(#3,d));")
        self.check([[0, 1, 3, 11], [4, 5, 6, 8, 10]], 2, net)
        # Two blobs that touch: the mixing of the one is the child of the other's mixing.
        net = read_newick("((a,((b,((c)#1,(#1,d))))#2),(#2,e));")
        self.assertEqual(level(net), 1)
        self.assertEqual(len(blobs(net)), 2)

    def test_the_order_is_that_of_the_lists(self):
        net = Net([(9, 1), (9, 5), (1, 20), (1, 8), (8, 20), (8, 21), (20, 22), (5, 0), (5, 30), (30, 0), (30, 31), (0, 32)],
                  [(21, "a"), (22, "b"), (31, "c"), (32, "d")])
        self.check([[0, 5, 30], [1, 8, 20]], 1, net)

    def test_random_nets(self):
        levels = set()
        for arrows, leaves in SAMPLES + random_nets(400, seed=132):
            net = Net(arrows, leaves)
            found = slow_blobs(arrows, leaves)
            self.check(found, slow_level(arrows, leaves), net)
            self.assertTrue(all(any(mixing in blob for blob in found) for mixing in mixings_of(arrows)))
            levels.add(level(net))
        self.assertGreater(len(levels), 5)

    def test_by_name(self):
        self.expect([[0, 1, 3, 5]], blobs, net=Net(*DOC))
        self.expect(1, level, net=Net(*DOC))

    def test_equal_calls_behind_others(self):
        net = Net(*DOC)
        for _ in range(3):
            self.assertEqual((blobs(net), level(net)), ([[0, 1, 3, 5]], 1))
            blobs(net)[0].clear()
            blobs(Net(*KNOT)).clear()
