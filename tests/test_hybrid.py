"""Few gifts for several trees: points 61 to 65 and the heading levelgifts/hybrid.py."""

import random
from itertools import product

from checks import Case, shown
from levelgifts.faults import BadPaper, BadTree, BadValue, TooMany, Unlike
from levelgifts.hybrid import common_row, is_common_row, least_gifts, net_of_common_row, pluck_tree
from levelgifts.newick import write_newick
from levelgifts.pluck import build, can_be_plucked
from levelgifts.shown import choices, find_showing, tree_by_choice
from slow_hybrid import changing_pairs, slow_common, slow_last, slow_pluck_tree
from slow_trees import all_trees, random_tree, slow_names
from test_trees import NAMES, NO_TREES, left_comb, right_comb

TWO = [(("a", "b"), "c"), ("a", ("b", "c"))]
ROW = [("a", "b"), ("b", "c"), ("a", "c")]
STRANGE = [None, True, False, 0, 1, 10 ** 59, "", "row", (), (("a", "b"),), [None], [True], [1], ["ab"], [[]], [()], [("a",)],
           [["a", "b"], ["b", "c"], ["a", "c"]], [("a", "b", "c")], [("a", 1)], [(None, "b")], [("a", ["b"])],
           tuple(ROW), [tuple(ROW)], [ROW], ROW[:2] + [["a", "c"]], ROW[:2] + [("a", True)], ROW[:2] + [("a", "c", "")]]
# Each with the error of point 65 that is due.
REFUSED = [
    ([], BadValue, {"bad": 0}), (["a"], BadValue, {"bad": 1}), ([TWO[0]], BadValue, {"bad": 1}),
    (TWO + TWO, BadValue, {"bad": 4}), (["a"] * 400, BadValue, {"bad": 400}), (["a", "b", "c", "d"], BadValue, {"bad": 4}),
    (["a", "b"], Unlike, {"bad": "a"}), ([("a", "c"), ("a", "d")], Unlike, {"bad": "c"}),
    ([("a", "b"), "a"], Unlike, {"bad": "b"}), (["b", ("a", "b")], Unlike, {"bad": "a"}),
    (TWO + [(("a", "b"), "d")], Unlike, {"bad": "c"}), ([("b", "c"), ("b", "c"), ("aa", "c")], Unlike, {"bad": "aa"}),
    ([("a1", "aa"), ("aa", "b")], Unlike, {"bad": "a1"}), (["a", "a", "b"], Unlike, {"bad": "a"}),
]


def spread(chance, names, many):
    return [random_tree(chance, names) for _ in range(many)]


def random_common_row(chance, trees):
    """A common row of the trees, if some random pairs come to one within the bound, otherwise the row so far."""
    row, most = [], len(slow_names(trees[0])) + 7
    while len(row) < most and changing_pairs(trees):
        row.append(chance.choice(changing_pairs(trees)))
        trees = [slow_pluck_tree(tree, row[-1]) for tree in trees]
    return row


class PluckTree(Case):
    def test_small(self):
        tree = (("a", "c"), "b")
        self.expect(("b", "c"), pluck_tree, tree, ("a", "c"))
        self.expect(("a", "b"), pluck_tree, tree, ("c", "a"))
        self.expect("b", pluck_tree, ("a", "b"), ("a", "b"))
        self.expect("a", pluck_tree, ("a", "b"), ("b", "a"))
        self.expect((("a", "b"), ("c", "n1")), pluck_tree, (("a", "b"), ("c", ("n0", "n1"))), ("n0", "n1"))

    def test_the_order_afterwards(self):
        self.expect((("a", "c"), ("b", "d")), pluck_tree, (("a", "c"), ("b", "d")), ("q", "r"))
        self.expect((("b", "d"), "c"), pluck_tree, (("a", "c"), ("b", "d")), ("a", "c"))
        self.expect(((("b", "e"), "c"), "d"), pluck_tree, (("a", "d"), (("b", "e"), "c")), ("a", "d"))
        self.expect((("b", "e"), ("c", "d")), pluck_tree, ((("a", "d"), "c"), ("b", "e")), ("a", "d"))

    def test_pairs_that_are_no_sisters(self):
        tree = ((("a", "b"), "c"), "d")
        for pair in (("a", "c"), ("c", "d"), ("d", "c"), ("a", "a"), ("d", "d"), ("q", "q"), ("a", "q"), ("q", "a"), ("", ""),
                     ("A", "x" * 4000), ("b", "d"), ("a", "b "), ("c", "b")):
            self.expect(tree, pluck_tree, tree, pair)
            self.expect("a", pluck_tree, "a", pair)
        self.expect("a", pluck_tree, pair=("a", "b"), tree="a")

    def test_all_small_trees(self):
        for tree in all_trees(["a", "aa", "b"]) + all_trees(["a", "b", "c", "d"]):
            for pair in product(slow_names(tree) + ["q"], repeat=2):
                self.expect(slow_pluck_tree(tree, pair), pluck_tree, tree, pair)

    def test_great_trees(self):
        chance, changed = random.Random(211), 0
        for _ in range(200):
            tree = random_tree(chance, chance.sample(NAMES, chance.randrange(1, 13)))
            for pair in changing_pairs([tree])[:2] + [tuple(chance.choices(NAMES, k=2))]:
                wanted = slow_pluck_tree(tree, pair)
                self.expect(wanted, pluck_tree, tree, pair)
                changed += wanted != tree
        self.assertGreater(changed, 200)

    def test_bad_trees(self):
        for value in NO_TREES:
            for pair in (("a", "b"), ("", ""), ("q", "a")):
                self.refuses(BadTree, {"word": "form"}, pluck_tree, value, pair)


class CommonRows(Case):
    def test_small(self):
        self.expect(True, is_common_row, TWO, ROW)
        self.expect(True, is_common_row, paper=[("c", "b"), ("b", "a"), ("c", "a")], trees=TWO)
        self.expect(True, is_common_row, [("a", "b"), ("a", "b")], [("b", "a")])
        self.expect(True, is_common_row, [TWO[0]] * 3, [("b", "a"), ("c", "a")])

    def test_trees_of_one_name(self):
        for many in (2, 3):
            self.expect(True, is_common_row, ["a"] * many, [])
            for paper in STRANGE + [[("a", "a")], [("a", "b")], [("b", "a")]]:
                self.expect(False, is_common_row, ["a"] * many, paper)
            net = self.call(net_of_common_row, ["a"] * many, [])
            self.assertEqual((net.arrows(), net.leaves()), ([], [(0, "a")]))
            self.expect([], common_row, ["a"] * many)
            self.expect(0, least_gifts, ["a"] * many)

    def test_pairs_that_change_no_tree(self):
        for at in range(4):
            for pair in (("a", "a"), ("q", "a"), ("a", "q"), ("", "")):
                self.expect(False, is_common_row, TWO, ROW[:at] + [pair] + ROW[at:])
        self.expect(False, is_common_row, TWO, [("a", "c")] + ROW)
        self.expect(False, is_common_row, TWO, [ROW[0]] * 2 + ROW[1:])

    def test_rows_that_end_too_early_or_go_on(self):
        for many in range(3):
            self.expect(False, is_common_row, TWO, ROW[:many])
        for pair in ROW + [("c", "a"), ("c", "c")]:
            self.expect(False, is_common_row, TWO, ROW + [pair])
        self.expect(False, is_common_row, TWO, ROW * 100)
        # Both trees are single names, but not the same one.
        self.expect(False, is_common_row, TWO, [("a", "b"), ("b", "c"), ("c", "a")])

    def test_the_bound_on_rows(self):
        chance, lengths = random.Random(212), []
        for many in (6, 7, 8):
            names = [f"m{k}" for k in range(many)]
            for _ in range(150):
                trees = spread(chance, names, 3)
                row = []
                left = trees
                while changing_pairs(left) and len(row) < 40:
                    row.append(chance.choice(changing_pairs(left)))
                    left = [slow_pluck_tree(tree, row[-1]) for tree in left]
                if len(set(left)) == 1:
                    lengths.append(len(row) - many)
                    self.expect(len(row) <= many + 7, is_common_row, trees, row)
                    if len(row) > many + 7:
                        self.refuses(BadPaper, {"word": "row"}, net_of_common_row, trees, row)
                    else:
                        self.assertEqual(len(net_of_common_row(trees, row).mixings()), len(row) - many + 1)
        self.assertLess(min(lengths), 7)
        self.assertIn(7, lengths)
        self.assertIn(8, lengths)

    def test_papers_of_any_kind(self):
        for paper in STRANGE:
            self.expect(False, is_common_row, TWO, paper)
            self.refuses(BadPaper, {"word": "row"}, net_of_common_row, TWO, paper)
        self.expect(False, is_common_row, TWO, [])
        self.refuses(BadPaper, {"word": "row"}, net_of_common_row, row=[], trees=TWO)

    def test_random_rows(self):
        chance, counts = random.Random(213), {True: 0, False: 0}
        for _ in range(300):
            trees = spread(chance, chance.sample(NAMES, chance.randrange(1, 6)), chance.choice([2, 3]))
            row = random_common_row(chance, trees)
            if row and chance.random() < 0.3:
                row[chance.randrange(len(row))] = tuple(chance.sample(slow_names(trees[0]), 2))
            wanted = slow_last(trees, row) is not None
            self.expect(wanted, is_common_row, trees, row)
            counts[wanted] += 1
            if wanted:
                self.check_net(trees, row)
            else:
                self.refuses(BadPaper, {"word": "row"}, net_of_common_row, trees, row)
        self.assertGreater(min(counts.values()), 50)

    def check_net(self, trees, row):
        """The net is that of point 63."""
        net = self.call(net_of_common_row, trees, row)
        names = slow_names(trees[0])
        self.assertEqual(net, build(row, last=slow_last(trees, row)))
        self.assertTrue(can_be_plucked(net))
        self.assertEqual(net.names(), sorted(names))
        self.assertEqual(len(net.mixings()), len(row) - len(names) + 1)
        if len(net.mixings()) <= 6:
            found = {tree_by_choice(net, choice) for choice in choices(net)}
            self.assertLessEqual(set(trees), found)

    def test_twelve_names(self):
        trees = [left_comb(12), right_comb(12)]
        row = [(f"{x}", f"{y}") for x, y in zip("bcdefghijkl", "a" * 11)]
        self.expect(False, is_common_row, trees, row)
        self.expect(True, is_common_row, [left_comb(12)] * 3, row)
        self.check_net([left_comb(12)] * 3, row)
        # The greatest number of mixings.
        chance = random.Random(214)
        for _ in range(200):
            trees = spread(chance, NAMES[:9], 2)
            row = random_common_row(chance, trees)
            if len(row) == 16 and slow_last(trees, row):
                break
        self.expect(True, is_common_row, trees, row)
        self.assertEqual(len(net_of_common_row(trees, row).mixings()), 8)


class LeastRows(Case):
    def test_the_example(self):
        self.expect([("a", "b"), ("b", "c"), ("a", "c")], common_row, [(("a", "b"), "c"), ("a", ("b", "c"))])
        self.expect(1, least_gifts, [(("a", "b"), "c"), ("a", ("b", "c"))])
        self.assertEqual(write_newick(net_of_common_row(TWO, ROW)), "((c,(b,(a)#1)),#1);")

    def test_equal_trees(self):
        for tree in all_trees(["a", "b", "c", "d"]):
            row = slow_common([tree, tree])
            self.assertEqual(len(row), 3)
            for many in (2, 3):
                self.expect(row, common_row, [tree] * many)
                self.expect(0, least_gifts, trees=[tree] * many)

    def test_all_two_trees_of_four_names(self):
        trees = all_trees(["a", "b", "c", "d"])
        for one, other in product(trees, repeat=2):
            self.check([one, other])

    def test_three_trees(self):
        for trees in product(all_trees(["a", "b", "c"]), repeat=3):
            self.check(list(trees))
        chance = random.Random(215)
        for _ in range(60):
            self.check(spread(chance, ["a", "aa", "b", "c"], 3))

    def test_two_trees_of_five_names(self):
        chance, costs = random.Random(216), []
        for _ in range(40):
            costs.append(self.check(spread(chance, ["a", "a1", "b", "c", "d"], 2)))
        self.assertEqual({1, 2} - set(costs), set())

    def check(self, trees):
        row = slow_common(trees)
        cost = len(row) - len(slow_names(trees[0])) + 1
        self.expect(row, common_row, trees)
        self.expect(cost, least_gifts, trees)
        net = self.call(net_of_common_row, trees, row)
        self.assertEqual(len(net.mixings()), cost)
        self.assertTrue(all(find_showing(net, tree) is not None for tree in trees))
        return cost

    def test_by_name(self):
        self.expect(ROW, common_row, trees=TWO)

    def test_equal_calls_behind_others(self):
        for _ in range(3):
            self.assertEqual(common_row(TWO), ROW)
            common_row(TWO).clear()
            common_row([("a", "b"), ("a", "b")])
            self.assertEqual(shown(net_of_common_row(TWO, ROW)), shown(build(ROW, last="c")))


class Errors(Case):
    def each(self, error, told, trees):
        """Each function that takes a list of trees raises the error, whatever its paper is."""
        for function in (common_row, least_gifts):
            self.refuses(error, told, function, trees)
        for paper in ([], ROW, None, [1]):
            for function in (is_common_row, net_of_common_row):
                self.refuses(error, told, function, trees, paper)

    def test_bad_trees_go_ahead(self):
        for value in NO_TREES:
            for trees in ([value], [value, "a"], ["a", value], ["b", ("a", "b"), value], ["a", "b", "c", "d", value],
                          [left_comb(12), left_comb(11), value]):
                self.each(BadTree, {"word": "form"}, trees)

    def test_the_others(self):
        for trees, error, told in REFUSED:
            self.each(error, told, trees)

    def test_other_names_go_ahead_of_the_bounds(self):
        self.each(Unlike, {"bad": "l"}, [left_comb(12), left_comb(11)])
        self.each(Unlike, {"bad": "i"}, [left_comb(9), left_comb(9), left_comb(8)])

    def test_the_bounds(self):
        for many in (5, 6, 12):
            for tree in (left_comb(many), right_comb(many)):
                for trees, most in (([tree, tree], 5), ([tree, left_comb(many)], 5), ([tree] * 3, 4)):
                    if many > most:
                        for function in (common_row, least_gifts):
                            self.refuses(TooMany, {"word": "leaves", "many": many}, function, trees)
                    self.expect(False, is_common_row, trees, [])
                    self.refuses(BadPaper, {"word": "row"}, net_of_common_row, trees, [])
        self.assertEqual(len(common_row([left_comb(5), right_comb(5)])), 4 + least_gifts([left_comb(5), right_comb(5)]))
        self.assertEqual(len(common_row([left_comb(4), right_comb(4), right_comb(4)])), 5)
