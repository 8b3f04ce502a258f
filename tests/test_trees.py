"""Trees: points 55 to 57 and the heading levelgifts/trees.py."""

import random
from itertools import permutations

from checks import Case, shown
from levelgifts import trees as functions
from levelgifts.faults import BadNet, BadPaper, BadText, BadTree, BadValue, NoLeaf
from levelgifts.nets import Net
from levelgifts.newick import read_newick, write_newick
from levelgifts.trees import (
    is_tree, net_of_tree, outer_of, read_tree, restrict, tree_clusters, tree_from_clusters, tree_names, tree_of_net, tree_text,
)
from samples import CHERRY, DOC, KNOT, ONE_PLACE, caterpillar, greatest, random_nets
from slow_kinds import mixings_of
from slow_trees import all_trees, random_tree, slow_clusters, slow_is_tree, slow_names, slow_outer, slow_restrict

BIG = 10 ** 59
TREE = (("a", "c"), "b")
NAMES = ["a", "a1", "aa", "b", "ba", "c", "d", "e", "n10", "n9", "x", "zzzzzzzz"]


def left_comb(many):
    """A tree with the names a, b, c .. that is as deep as can be."""
    tree = "a"
    for sign in "bcdefghijklmnopqrstuvwxyz"[:many - 1]:
        tree = (tree, sign)
    return tree


def right_comb(many):
    tree = "abcdefghijklmnopqrstuvwxyz"[many - 1]
    for sign in "abcdefghijklmnopqrstuvwxyz"[:many - 1][::-1]:
        tree = (sign, tree)
    return tree


def deep(value, many=59):
    for _ in range(many):
        value = (value, "a")
    return value


NO_TREES = [
    None, True, False, 0, 1, -BIG, "", "A", "1a", " ", "a b", "abcdefghi", "a\n", "x" * 4000, "(a,b);", [], (), ["a", "b"],
    ("a",), (("a",),), ("a", "b", "c"), ("b", "a"), ("a", "a"), ("ba", "b"), ("b", "aa"), ("a", None), (None, "b"), ("a", True),
    ("a", 1), ("a", ["b", "c"]), [("a", "b"), "c"], (("a", "b"), ("a", "c")), ("a", ("a", "b")), ("a", ("b", "a")),
    (("a", "b"), "a"), (("a", "b"), "b"), ("b", ("a", "c")), (("b", "c"), "a"), (("a", "c"), ("d", "b")), ("a", ("b", "")),
    ("a", ("c", "b")), ("a", "B"), ("a", "abcdefghi"), ("aa", "a1"), (("a", "b"),), ((), "b"), ("a", ()), (("a", "b", "c"), "d"),
    left_comb(13), right_comb(13), left_comb(26), deep("a"), deep(()), deep([], 58), (left_comb(12), "z"),
    (left_comb(7), ("u", ("v", ("w", ("x", ("y", "z")))))), tuple(["a", "b"] * 1500),
]


class Judge(Case):
    def test_trees(self):
        for tree in ["a", "z9", "abcdefgh", ("a", "b"), ("a1", "aa"), ("b", "ba"), TREE, ("a", ("b", "c")), (("a", "d"), ("b", "c")),
                     left_comb(12), right_comb(12), (left_comb(6), ("u", ("v", ("w", ("x", ("y", "z"))))))]:
            self.assertTrue(slow_is_tree(tree))
            self.expect(True, is_tree, tree)

    def test_what_is_no_tree(self):
        for value in NO_TREES:
            self.assertFalse(slow_is_tree(value))
            self.expect(False, is_tree, value)

    def test_random_values(self):
        chance, counts = random.Random(161), {True: 0, False: 0}

        def value(depth):
            if depth == 0 or chance.random() < 0.3:
                return chance.choice(["a", "b", "c", "d", "e", "f", "g"] * 3 + ["", None, 3])
            parts = [value(depth - 1) for _ in range(chance.choice([2] * 12 + [1, 3]))]
            return chance.choice([tuple] * 9 + [list])(sorted(parts, key=lambda part: (str(part).strip("('"))))

        for _ in range(4000):
            found = value(3)
            wanted = slow_is_tree(found)
            self.assertIs(is_tree(found), wanted)
            counts[wanted] += 1
        self.assertGreater(min(counts.values()), 500)

    def test_all_small_trees(self):
        self.assertEqual([len(all_trees(NAMES[:many])) for many in (1, 2, 3, 4)], [1, 1, 3, 15])
        for many in range(1, 6):
            self.assertTrue(all(is_tree(tree) for tree in all_trees(NAMES[:many])))

    def test_by_name(self):
        self.expect(True, is_tree, value=TREE)


class Texts(Case):
    def test_small(self):
        self.expect("((a,c),b);", tree_text, TREE)
        self.expect("a;", tree_text, "a")
        self.expect("(a1,(aa,b));", tree_text, ("a1", ("aa", "b")))
        self.expect(Net([(0, 1), (0, 4), (1, 2), (1, 3)], [(2, "a"), (3, "c"), (4, "b")]), net_of_tree, TREE)
        self.expect(Net([], [(0, "a")]), net_of_tree, "a")
        self.expect(TREE, tree_of_net, Net([(0, 1), (0, 4), (1, 2), (1, 3)], [(2, "c"), (3, "a"), (4, "b")]))
        self.expect("a", tree_of_net, Net(*ONE_PLACE))
        self.expect(("a", "b"), tree_of_net, Net(*CHERRY))

    def test_reading(self):
        self.expect((("a", "c"), "b"), read_tree, "(b,(c,a));")
        self.expect("a", read_tree, " a ; ")
        self.expect((("a", "d"), ("b", "c")), read_tree, "((c,b),(d,a));")
        self.expect(("a1", ("aa", "b")), read_tree, "((b,aa),a1);")

    def test_there_and_back(self):
        chance = random.Random(162)
        for _ in range(200):
            tree = random_tree(chance, NAMES[:chance.randrange(1, 13)])
            text = self.call(tree_text, tree)
            self.expect(tree, read_tree, text)
            net = self.call(net_of_tree, tree)
            self.assertEqual(shown(net), shown(read_newick(text)))
            self.expect(tree, tree_of_net, net)
            # Any order of the children gives the same tree.
            self.expect(tree, read_tree, turned(chance, tree) + ";")

    def test_depth(self):
        for tree in (left_comb(12), right_comb(12)):
            self.expect(tree, read_tree, tree_text(tree))
            self.assertEqual(len(net_of_tree(tree).names()), 12)

    def test_mixings(self):
        for sample in (DOC, KNOT, greatest()):
            self.refuses(BadTree, {"word": "mixings"}, tree_of_net, Net(*sample))
            self.refuses(BadTree, {"word": "mixings"}, read_tree, write_newick(Net(*sample)))
        for arrows, leaves in random_nets(100, seed=163):
            net = Net(arrows, leaves)
            if mixings_of(arrows):
                self.refuses(BadTree, {"word": "mixings"}, tree_of_net, net)
            else:
                tree = self.call(tree_of_net, net)
                self.assertEqual(net.names(), sorted(slow_names(tree)))
                self.assertTrue(slow_is_tree(tree))

    def test_bad_texts(self):
        for text, told in (("(a,b", ("end", 4)), ("", ("end", 0)), ("(a,(b)#1);", ("marks", 6)), ("(a,B);", ("sign", 3)),
                           ("((a)#1,#1)", ("end", 10)), ("a" * 601, ("long", 600)), ("a;;", ("order", 2))):
            self.refuses(BadText, {"word": told[0], "at": told[1]}, read_tree, text)
        self.refuses(BadNet, {"word": "again", "at": 1}, read_tree, "(a,a);")
        self.refuses(BadNet, {"word": "double", "at": 1}, read_tree, "((a)#1,#1);")

    def test_by_name(self):
        self.expect("((a,c),b);", tree_text, tree=TREE)
        self.expect(TREE, tree_of_net, net=self.call(net_of_tree, tree=TREE))
        self.expect(TREE, read_tree, text="(b,(c,a));")


def turned(chance, tree):
    """The text of the tree as a node, with the children in random orders and with blanks."""
    if type(tree) is str:
        return tree + chance.choice(["", " "])
    one, other = chance.sample(tree, 2)
    return "(" + turned(chance, one) + "," + turned(chance, other) + ")"


class Clusters(Case):
    def test_small(self):
        self.expect([("a",), ("a", "b", "c"), ("a", "c"), ("b",), ("c",)], tree_clusters, TREE)
        self.expect([("a",)], tree_clusters, "a")
        self.expect(["a", "b", "c"], tree_names, TREE)
        self.expect(["a"], tree_names, "a")
        self.expect(["a1", "aa", "b"], tree_names, ("a1", ("aa", "b")))
        self.expect([("a1",), ("a1", "aa", "b"), ("aa",), ("aa", "b"), ("b",)], tree_clusters, ("a1", ("aa", "b")))

    def test_random_trees(self):
        chance = random.Random(164)
        for _ in range(200):
            tree = random_tree(chance, NAMES[:chance.randrange(1, 13)])
            self.expect(slow_clusters(tree), tree_clusters, tree)
            self.expect(sorted(slow_names(tree)), tree_names, tree)
            self.expect(tree, tree_from_clusters, slow_clusters(tree))

    def test_all_small_trees(self):
        for many in range(1, 6):
            for tree in all_trees(NAMES[:many]):
                self.assertEqual(tree_from_clusters(tree_clusters(tree)), tree)

    def test_the_greatest_trees(self):
        for tree in (left_comb(12), right_comb(12)):
            self.expect(tree, tree_from_clusters, self.call(tree_clusters, tree))

    def test_by_name(self):
        self.expect(slow_clusters(TREE), tree_clusters, tree=TREE)
        self.expect(["a", "b", "c"], tree_names, tree=TREE)
        self.expect(TREE, tree_from_clusters, paper=slow_clusters(TREE))

    def refused(self, paper):
        self.refuses(BadPaper, {"word": "clusters"}, tree_from_clusters, paper)

    def test_bent_papers(self):
        chance = random.Random(165)
        for tree in ["a", ("a", "b"), TREE, left_comb(12), right_comb(12)] + all_trees(NAMES[:4]):
            paper = slow_clusters(tree)
            everything = {cluster for other in all_trees(sorted(slow_names(tree))[:5]) for cluster in slow_clusters(other)}
            for k, cluster in enumerate(paper):
                self.refused(paper[:k] + paper[k + 1:])
                self.refused(paper[:k + 1] + paper[k:])
                for bad in (list(cluster), cluster + ("zz9",), cluster[:-1], cluster[::-1] + cluster, cluster * 2, None, True, 0,
                            cluster[0], (cluster,), [cluster], (None,), ("A",), ((),), (["a"],), (1,), ("",)):
                    self.refused(paper[:k] + [bad] + paper[k + 1:])
            for cluster in sorted(everything - set(paper)) + [("zz9",), ("a", "zz9"), ()]:
                self.refused(sorted(paper + [cluster]))
            if len(paper) > 1:
                self.refused(paper[::-1])
                other = list(paper)
                while other == paper:
                    chance.shuffle(other)
                self.refused(other)
            self.refused(tuple(paper))
            self.refused([paper])
            self.refused(paper + paper)

    def test_other_kinds(self):
        for paper in NO_TREES + ["a", ("a", "b"), TREE, [()], [[]], [[], []], [("a", "b")], [("a",), ("b",)], [("b",), ("a",)],
                                 [("a",), ("a", "b"), ("b",), ("c",)], [("a",), ("a", "b", "c"), ("b",), ("c",)],
                                 [("A",)], [("",)], [("a", "a")], [("a",), ("a", "a")], ["a"], [["a"]], [deep("a", 57)],
                                 [("b",)] * 3000, [(f"n{k}",) for k in range(1400)], [tuple(f"n{k}" for k in range(2900))]]:
            self.refused(paper)

    def test_more_than_twelve_names(self):
        for many in (13, 14, 26):
            self.refused(slow_clusters(left_comb(many)))
            self.refused(slow_clusters(right_comb(many)))

    def test_clusters_that_cross(self):
        self.refused([("a",), ("a", "b"), ("a", "b", "c"), ("b",), ("b", "c"), ("c",)])
        self.refused([("a",), ("a", "b", "c", "d"), ("a", "b"), ("b",), ("c",), ("d",), ("a", "c")])
        self.refused(sorted([("a",), ("b",), ("c",), ("d",), ("a", "b"), ("b", "c"), ("a", "b", "c", "d")]))
        self.refused(sorted([("a",), ("b",), ("c",), ("d",), ("a", "b", "c"), ("b", "c", "d"), ("a", "b", "c", "d")]))


class Restricting(Case):
    def test_small(self):
        self.expect("a", restrict, "a", ["a"])
        self.expect("b", restrict, TREE, ["b"])
        self.expect(TREE, restrict, TREE, ["c", "b", "a"])
        self.expect(("b", "c"), restrict, TREE, ["c", "b"])
        self.expect(("a", "b"), restrict, TREE, ["b", "a", "b", "b"])
        self.expect(("c", "d"), restrict, (("a", "d"), ("b", "c")), ["d", "c"])
        # The tuples change their order.
        self.expect(("b", ("c", "d")), restrict, ((("a", "c"), "d"), "b"), ["b", "c", "d"])
        self.expect((("b", "e"), ("c", "d")), restrict, ((("a", "c"), "d"), ("b", "e")), ["b", "c", "d", "e"])

    def test_all_parts_of_random_trees(self):
        chance = random.Random(166)
        for _ in range(40):
            tree = random_tree(chance, NAMES[:chance.randrange(1, 8)])
            names = sorted(slow_names(tree))
            for bits in range(1, 2 ** len(names)):
                part = [name for k, name in enumerate(names) if bits >> k & 1]
                chance.shuffle(part)
                self.expect(slow_restrict(tree, set(part)), restrict, tree, part + part[:1])

    def test_errors(self):
        for value in NO_TREES:
            for names in ([], ["a"], ["q"], ["q"] * 400):
                self.refuses(BadTree, {"word": "form"}, restrict, value, names)
        self.refuses(BadValue, {"bad": []}, restrict, TREE, [])
        self.refuses(BadValue, {"bad": []}, restrict, "a", [])
        for bad in ("", "d", "A", "x" * 4000, "ac", "(a,c)", " a"):
            self.refuses(NoLeaf, {"bad": bad}, restrict, TREE, [bad])
            self.refuses(NoLeaf, {"bad": bad}, restrict, TREE, ["a", "c", bad, "q"])
            self.refuses(NoLeaf, {"bad": "q"}, restrict, TREE, ["q", bad, "a"])
            self.refuses(NoLeaf, {"bad": bad}, restrict, "b", ["b"] * 398 + [bad])

    def test_by_name(self):
        self.expect(("b", "c"), restrict, names=["c", "b"], tree=TREE)


class Outer(Case):
    def test_the_example(self):
        self.expect("b", outer_of, (("a", "c"), "b"), "a", "b", "c")

    def test_every_three_names(self):
        for tree in all_trees(NAMES[:3]) + all_trees(NAMES[:4]) + all_trees(NAMES[:5])[::7]:
            for three in permutations(sorted(slow_names(tree)), 3):
                self.expect(slow_outer(tree, three), outer_of, tree, *three)

    def test_great_trees(self):
        chance = random.Random(167)
        for _ in range(100):
            tree = random_tree(chance, NAMES)
            three = chance.sample(NAMES, 3)
            self.expect(slow_outer(tree, three), outer_of, tree, *three)

    def test_equal_names(self):
        for name in ("a", "q", "", "A", "x" * 4000):
            for other in ("b", "c", "r", "B"):
                self.refuses(BadValue, {"bad": name}, outer_of, TREE, name, name, other)
                self.refuses(BadValue, {"bad": name}, outer_of, TREE, name, other, name)
                self.refuses(BadValue, {"bad": name}, outer_of, TREE, other, name, name)
            self.refuses(BadValue, {"bad": name}, outer_of, TREE, name, name, name)
            self.refuses(BadValue, {"bad": name}, outer_of, "a", name, name, name)

    def test_strange_names(self):
        for bad in ("d", "", "A", "ab", "x" * 4000):
            self.refuses(NoLeaf, {"bad": bad}, outer_of, TREE, bad, "a", "b")
            self.refuses(NoLeaf, {"bad": bad}, outer_of, TREE, "a", bad, "b")
            self.refuses(NoLeaf, {"bad": bad}, outer_of, TREE, "a", "b", bad)
            self.refuses(NoLeaf, {"bad": bad}, outer_of, TREE, bad, "q", "r")
            self.refuses(NoLeaf, {"bad": "q"}, outer_of, TREE, "c", "q", bad)
        self.refuses(NoLeaf, {"bad": "b"}, outer_of, "a", "a", "b", "c")
        self.refuses(NoLeaf, {"bad": "c"}, outer_of, ("a", "b"), "a", "b", "c")

    def test_bad_trees(self):
        for value in NO_TREES:
            for three in (("a", "b", "c"), ("a", "a", "a"), ("q", "r", "s"), ("", "", "b")):
                self.refuses(BadTree, {"word": "form"}, outer_of, value, *three)

    def test_by_name(self):
        self.expect("b", outer_of, c="a", b="c", a="b", tree=TREE)


class BadTrees(Case):
    def test_each_function(self):
        for value in NO_TREES:
            for name in ("tree_text", "net_of_tree", "tree_names", "tree_clusters"):
                self.refuses(BadTree, {"word": "form"}, getattr(functions, name), value)

    def test_equal_calls_behind_others(self):
        def answers():
            net = net_of_tree(TREE)
            return [tree_text(TREE), net, tree_of_net(net), tree_names(TREE), tree_clusters(TREE), restrict(TREE, ["b", "c"]),
                    tree_from_clusters(tree_clusters(TREE)), outer_of(TREE, "a", "b", "c"), read_tree("(b,(c,a));")]

        before = shown(answers())
        for found in answers():
            if isinstance(found, list):
                found.clear()
        tree_clusters(left_comb(12)), tree_names("b"), restrict(right_comb(12), ["c"])
        self.assertEqual(shown(answers()), before)

    def test_a_tree_with_twelve_leaves(self):
        net = Net(*caterpillar(12))
        tree = self.call(tree_of_net, net)
        self.assertEqual(tree_names(tree), net.names())
        self.assertEqual(len(tree_clusters(tree)), 23)
