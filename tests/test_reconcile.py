"""Gene trees within nets: points 68 to 71 and 77 and the heading levelgifts/reconcile.py."""

import random

from checks import Case, shown
from levelgifts.faults import BadMoments, BadTree, BadValue, NoLeaf
from levelgifts.nets import Net
from levelgifts.newick import read_newick
from levelgifts.pluck import put_back
from levelgifts.reconcile import (
    find_history, gene_nodes, history_counts, is_floor, is_gene_tree, is_history, least_price, price_table,
)
from levelgifts.stuck import first_moments
from samples import CHERRY, DOC, ONE_PLACE, caterpillar
from slow_moments import places_of
from slow_reconcile import (
    slow_counts, slow_gene_names, slow_histories, slow_is_floor, slow_is_gene, slow_nodes, slow_table,
)
from test_moments import BENT, FIT, timed_nets
from test_trees import NO_TREES, deep, left_comb, right_comb

BIG = 10 ** 59
# The places of DOC: the root 0, the giver 1 above a (2) and the mixing 3 with b (4), and the split 5 above 3 and c (6).
NET = (DOC[0], DOC[1], FIT)
NO_PRICES = [None, True, 0, "", (), [2, 3, 1], (2, 3), (2, 3, 1, 0), (2, 3, True), (False, 3, 1), (2, 3, None), (2, "3", 1),
             (-1, 3, 1), (2, -1, 1), (2, 3, -1), (1000, 3, 1), (2, 1000, 1), (2, 3, 1000), (2, BIG, 1), (-BIG, 3, 1), ((2, 3, 1),),
             (2, 3, [1]), [(2, 3, 1)]]
GENES = [("a", "b"), (("b", "a"), "b"), (("a", "a"), ("c", "b")), "a", "c", ("c", "c")]


def random_gene(chance, names, many):
    trees = chance.choices(names, k=many)
    while len(trees) > 1:
        at = chance.randrange(len(trees) - 1)
        trees[at:at + 2] = [(trees[at], trees[at + 1])]
    return trees[0]


def gene_nets(many, *, seed, most=9):
    """Nets with few places and moments that fit, each with a gene tree."""
    chance = random.Random(seed)
    nets = [net for net in timed_nets(many, seed=seed) if len(places_of(*net[:2])) <= most]
    return [(net, random_gene(chance, [name for place, name in net[1]], chance.randrange(1, 5))) for net in nets]


def bent(chance, paper, places):
    """The history with something else at some place in it."""
    if chance.random() < 0.4:
        return chance.choice([
            None, True, (), "leaf", list(paper), paper[:-1], paper + (None,), paper + paper[-1:], paper[::-1], ("leaf", paper[1]),
            (paper[0], chance.choice(places), *paper[2:]), (paper[0], bool(paper[1]), *paper[2:]), (paper[0], str(paper[1])),
            (chance.choice(["leaf", "double", "down", "part", "go", "Go", "", 0, None]), *paper[1:]), ("go", paper[1], paper),
            (*paper[:2], *paper[2:][::-1]), ("double", paper[1], paper, paper), ("down", chance.choice(places), paper),
        ])
    inner = list(paper[2:])
    if not inner:
        return ("leaf", chance.choice(places + [True, BIG, -1]))
    at = chance.randrange(len(inner))
    inner[at] = bent(chance, inner[at], places)
    return (*paper[:2], *inner)


class GeneTrees(Case):
    def test_plain_values(self):
        for value in NO_TREES + ["a", ("b", "a"), ("a", "a"), (("a", "b"), ("b", "a")), ("a", ("a", ("a", "a"))), ("a", ("b", "A"))]:
            self.expect(slow_is_gene(value), is_gene_tree, value)
            if slow_is_gene(value):
                self.expect(slow_nodes(value), gene_nodes, value)
            else:
                self.refuses(BadTree, {"word": "form"}, gene_nodes, value)
        self.expect(True, is_gene_tree, value=("b", ("a", "b")))

    def test_the_bound_on_names(self):
        for many in range(1, 13):
            for value in (left_comb(many), right_comb(many), deep("a", many - 1)):
                self.expect(many <= 8, is_gene_tree, value)
        eight = (("a", "a"), ("a", "a"))
        self.expect(True, is_gene_tree, (eight, eight))
        self.expect(False, is_gene_tree, (eight, (eight, "a")))
        self.expect(False, is_gene_tree, ((eight, eight), (eight, eight)))

    def test_deep_values(self):
        for value in (deep("a"), deep(()), deep(1), deep([]), deep(None), deep("A", 50), [deep("a", 50)]):
            self.expect(False, is_gene_tree, value)
            self.refuses(BadTree, {"word": "form"}, gene_nodes, value)
        wide = tuple(["a"] * 2900)
        for value in (wide, (wide, "a"), ("a", wide), [wide]):
            self.expect(False, is_gene_tree, value)

    def test_nodes(self):
        self.expect(["a"], gene_nodes, "a")
        self.expect([("b", ("a", "b")), "b", ("a", "b"), "a", "b"], gene_nodes, gene=("b", ("a", "b")))
        self.expect([(("a", "a"), "a"), ("a", "a"), "a", "a", "a"], gene_nodes, (("a", "a"), "a"))
        chance = random.Random(231)
        for _ in range(50):
            gene = random_gene(chance, ["a", "b", "zz9"], chance.randrange(1, 9))
            self.expect(slow_nodes(gene), gene_nodes, gene)


class Histories(Case):
    def test_each_form_in_small(self):
        net = Net(*DOC)
        b = ("down", 3, ("leaf", 4))
        right = (
            ("b", ("go", 0, ("go", 1, b)), (0, 1, 2)),
            ("b", ("go", 0, ("go", 5, b)), (0, 0, 2)),
            ("a", ("go", 0, ("go", 1, ("leaf", 2))), (0, 0, 1)),
            ("c", ("go", 0, ("go", 5, ("leaf", 6))), (0, 0, 2)),
            (("a", "b"), ("go", 0, ("part", 1, ("leaf", 2), b)), (0, 1, 1)),
            (("b", "a"), ("go", 0, ("part", 1, b, ("leaf", 2))), (0, 1, 1)),
            (("c", "b"), ("go", 0, ("part", 5, ("leaf", 6), b)), (0, 0, 1)),
            (("a", "c"), ("part", 0, ("go", 1, ("leaf", 2)), ("go", 5, ("leaf", 6))), (0, 0, 1)),
            (("b", "b"), ("go", 0, ("go", 5, ("down", 3, ("double", 4, ("leaf", 4), ("leaf", 4))))), (1, 0, 2)),
            (("b", "b"), ("go", 0, ("go", 5, ("double", 3, b, b))), (1, 0, 2)),
            (("b", "b"), ("go", 0, ("double", 5, ("go", 5, b), ("go", 5, b))), (1, 0, 3)),
            (("b", "b"), ("part", 0, ("go", 1, b), ("go", 5, b)), (0, 1, 2)),
            (("a", "a"), ("double", 0, ("go", 0, ("go", 1, ("leaf", 2))), ("go", 0, ("go", 1, ("leaf", 2)))), (1, 0, 2)),
        )
        for gene, paper, counts in right:
            self.expect(counts, history_counts, net, FIT, gene, paper)
            self.expect(True, is_history, net, FIT, gene, paper)
            self.assertEqual(slow_counts(NET, gene, 0, paper), counts)

    def test_where_a_form_may_not_stand(self):
        net, b, a, c = Net(*DOC), ("down", 3, ("leaf", 4)), ("leaf", 2), ("leaf", 6)
        to_a, to_c = ("go", 1, a), ("go", 5, c)
        wrong = (
            ("a", ("leaf", 0)), ("a", ("leaf", 2)), ("b", ("go", 0, ("go", 5, ("leaf", 3)))), ("b", ("go", 0, ("go", 1, ("leaf", 4)))),
            ("a", ("go", 0, ("go", 1, ("leaf", 4)))), ("b", ("go", 0, ("go", 1, ("go", 3, ("leaf", 4))))), ("a", ("go", 0, a)),
            ("a", ("go", 1, a)), ("a", ("go", 0, ("go", 1, ("go", 2, a)))), ("a", ("down", 0, to_a)), ("a", ("go", 0, ("down", 1, a))),
            ("a", ("go", 0, ("go", 1, ("down", 2, a)))), ("a", ("double", 0, ("go", 0, to_a), ("go", 0, to_a))),
            ("a", ("part", 0, to_a, to_c)), (("a", "c"), ("part", 0, to_c, to_a)), (("c", "a"), ("part", 0, to_a, to_c)),
            (("a", "a"), ("part", 0, to_a, to_a)), (("a", "b"), ("go", 0, ("part", 1, b, a))), (("a", "c"), ("go", 0, ("part", 1, a, c))),
            (("b", "b"), ("go", 0, ("go", 5, ("part", 3, ("leaf", 4), ("leaf", 4))))), (("a", "a"), ("leaf", 0)),
            (("a", "b"), ("go", 0, ("go", 1, a))), (("a", "b"), ("go", 0, ("double", 1, to_a, ("go", 1, a)))),
            (("a", "c"), ("double", 0, to_a, to_c)), (("a", "b"), ("go", 0, ("part", 1, a, ("leaf", 4)))),
            (("b", "b"), ("go", 0, ("go", 5, ("double", 3, ("leaf", 4), ("leaf", 4))))),
            (("b", "b"), ("go", 0, ("go", 5, ("down", 3, ("part", 4, ("leaf", 4), ("leaf", 4)))))),
        )
        for gene, paper in wrong:
            self.assertIsNone(slow_counts(NET, gene, 0, paper))
            self.expect(None, history_counts, net, FIT, gene, paper)
            self.expect(False, is_history, net, FIT, gene, paper)

    def test_one_place(self):
        net, leaf = Net(*ONE_PLACE), ("leaf", 7)
        self.expect((0, 0, 0), history_counts, net, [(7, -4)], "a", leaf)
        self.expect((2, 0, 0), history_counts, net, [(7, 0)], (("a", "a"), "a"), ("double", 7, ("double", 7, leaf, leaf), leaf))
        self.expect(None, history_counts, net, [(7, 0)], (("a", "a"), "a"), ("double", 7, leaf, ("double", 7, leaf, leaf)))

    def test_truth_is_no_place(self):
        net = Net([(2, 0), (2, 1)], [(0, "a"), (1, "b")])
        moments = [(0, 1), (1, 1), (2, 0)]
        for zero, one in ((0, 1), (False, 1), (0, True), (False, True)):
            paper = ("part", 2, ("leaf", zero), ("leaf", one))
            self.expect((0, 0, 0) if type(zero) is type(one) is int else None, history_counts, net, moments, ("a", "b"), paper)

    def test_papers_of_any_kind(self):
        net = Net(*DOC)
        papers = [None, True, 0, "", "leaf", (), [], ("leaf",), ("go", 0), ["go", 0, ("go", 1, ("leaf", 2))], ((), ()), (None, 0),
                  ("go", 0, None), ("go", 0, ()), ("go", 0, ("go",)), ("go", 0, ["go", 1, ("leaf", 2)]), (["go"], 0, ("go", 1)),
                  ("go", 0, ("go", 1, ["leaf", 2])), ("go", 0, ("go", 1, ("leaf", 2), ("leaf", 2))), ("go", [0], 0), deep("a"),
                  ("go", 0, ("go", 1, ("leaf", 2, ()))), ("double", 0), ("part", 0, (), ()), ("go", 0, deep("go", 50)),
                  ("go", 0, ("go", True, ("leaf", 2))), ("go", False, ("go", 1, ("leaf", 2))), ("go", BIG, ("go", 1, ("leaf", 2))),
                  ("go", 0, tuple([1] * 2000)), ("leaf", None), ("leaf", (2,)), (("leaf", 2),)]
        for paper in papers:
            for gene in GENES:
                self.expect(None, history_counts, net, FIT, gene, paper)
                self.expect(False, is_history, net, FIT, gene, paper)
        self.expect((0, 0, 1), history_counts, paper=("go", 0, ("go", 1, ("leaf", 2))), gene="a", moments=FIT, net=net)
        self.expect(True, is_history, paper=("go", 0, ("go", 1, ("leaf", 2))), gene="a", moments=FIT, net=net)

    def test_all_histories_of_small_nets(self):
        words = set()
        for net, gene in gene_nets(200, seed=232) + [(NET, gene) for gene in GENES]:
            made = Net(*net[:2])
            for paper, counts in slow_histories(net, gene, made.root)[::3]:
                self.assertEqual(history_counts(made, net[2], gene, paper), counts)
                self.assertIs(is_history(made, net[2], gene, paper), True)
                words |= {word for word in ("leaf", "double", "down", "part", "go") if f"'{word}'" in repr(paper)}
        self.assertEqual(len(words), 5)

    def test_bent_histories(self):
        chance, counts = random.Random(233), {True: 0, False: 0}
        for net, gene in gene_nets(200, seed=233) + [(NET, gene) for gene in GENES]:
            made, every = Net(*net[:2]), slow_histories(net, gene, Net(*net[:2]).root)
            for paper, _ in chance.sample(every, min(len(every), 8)):
                for _ in range(4):
                    paper_bent = bent(chance, paper, made.places())
                    wanted = slow_counts(net, gene, made.root, paper_bent)
                    self.expect(wanted, history_counts, made, net[2], gene, paper_bent)
                    self.expect(wanted is not None, is_history, made, net[2], gene, paper_bent)
                    counts[wanted is None] += 1
        self.assertGreater(min(counts.values()), 50)


class Prices(Case):
    def test_small(self):
        net = Net(*DOC)
        wanted = ("part", 0, ("go", 1, ("leaf", 2)), ("go", 5, ("down", 3, ("leaf", 4))))
        self.expect(1, least_price, net, FIT, ("a", "b"))
        self.expect(wanted, find_history, net, FIT, ("a", "b"))
        self.expect(5, least_price, net, FIT, ("a", "b"), prices=(2, 0, 5))
        self.expect(1, least_price, net, FIT, "a")
        self.expect(2, least_price, net, FIT, "b")
        self.expect(0, least_price, net, FIT, ("b", "b"), prices=(0, 0, 0))
        self.expect(999, least_price, Net(*ONE_PLACE), [(7, 0)], ("a", "a"), prices=(999, 0, 999))
        self.expect(999 * 7, least_price, Net(*ONE_PLACE), [(7, 0)], deep("a", 7), prices=(999, 999, 999))

    def test_the_default_prices(self):
        net = Net(*DOC)
        for gene in GENES:
            self.expect(least_price(net, FIT, gene, prices=(2, 3, 1)), least_price, net, FIT, gene)
            self.expect(price_table(net, FIT, gene, prices=(2, 3, 1)), price_table, net, FIT, gene)
            self.expect(find_history(net, FIT, gene, prices=(2, 3, 1)), find_history, net, FIT, gene)
            table = price_table(net, FIT, gene)
            self.expect(True, is_floor, net, FIT, gene, table)
            self.expect(True, is_floor, net, FIT, gene, table, prices=(2, 3, 1))

    def test_the_table_in_small(self):
        # The places 2, 4 and 9: a leaf b, the root, a leaf a.
        net, moments = Net(*CHERRY), [(2, 1), (4, 0), (9, 1)]
        self.expect([[None, 1, 0]], price_table, net, moments, "a")
        self.expect([[None, 0, None], [None, 1, 0], [0, 1, None]], price_table, net, moments, ("a", "b"))
        self.expect([[None, 3, 2], [None, 1, 0], [None, 1, 0]], price_table, net, moments, ("a", "a"))
        self.expect([[0]], price_table, moments=[(7, 5)], gene="a", net=Net(*ONE_PLACE), prices=(9, 9, 9))

    def test_the_least_of_all_histories(self):
        chance = random.Random(234)
        for net, gene in gene_nets(250, seed=234, most=7) + [(NET, gene) for gene in GENES]:
            made = Net(*net[:2])
            prices = tuple(chance.choice([0, 1, 2, 5, 999]) for _ in range(3))
            every = slow_histories(net, gene, made.root, most=10 ** 5)
            least = min(sum(a * b for a, b in zip(counts, prices)) for paper, counts in every)
            self.expect(least, least_price, made, net[2], gene, prices=prices)
            self.assertIn(find_history(made, net[2], gene, prices=prices), [paper for paper, counts in every])

    def test_random_nets(self):
        chance, nones = random.Random(235), 0
        for net, gene in gene_nets(250, seed=235, most=60) + [(NET, gene) for gene in GENES]:
            made = Net(*net[:2])
            prices = tuple(chance.choice([0, 1, 2, 5, 999]) for _ in range(3))
            table = slow_table(net, gene, prices)
            nones += any(None in row for row in table)
            self.expect(table, price_table, made, net[2], gene, prices=prices)
            least = table[0][made.places().index(made.root)]
            self.expect(least, least_price, made, net[2], gene, prices=prices)
            found = self.call(find_history, made, net[2], gene, prices=prices)
            counts = slow_counts(net, gene, made.root, found)
            self.assertEqual(sum(a * b for a, b in zip(counts, prices)), least)
            self.expect(True, is_history, made, net[2], gene, found)
        self.assertGreater(nones, 50)

    def test_the_greatest_nets(self):
        net = Net(*caterpillar(12))
        for k in range(8):
            net = put_back(net, (f"n{k}", f"n{11 - k}"))
        chance, moments = random.Random(236), first_moments(net)
        for _ in range(10):
            gene = random_gene(chance, net.names(), 8)
            told = (net.arrows(), net.leaves(), moments)
            table = self.call(price_table, net, moments, gene)
            self.assertEqual(table, slow_table(told, gene, (2, 3, 1)))
            found = self.call(find_history, net, moments, gene)
            counts = self.call(history_counts, net, moments, gene, found)
            self.expect(2 * counts[0] + 3 * counts[1] + counts[2], least_price, net, moments, gene)
            self.expect(True, is_floor, net, moments, gene, table)
            self.assertTrue(slow_is_floor(told, gene, (2, 3, 1), table))


class Floors(Case):
    def both(self, wanted, net, gene, paper, prices=(2, 3, 1)):
        self.expect(wanted, is_floor, Net(*net[:2]), net[2], gene, paper, prices=prices)
        self.assertIs(slow_is_floor(net, gene, prices, paper), wanted)

    def test_small(self):
        cherry = (*CHERRY, [(2, 1), (4, 0), (9, 1)])
        self.both(True, cherry, "a", [[None, 1, 0]])
        for row in ([None, 0, 0], [None, -BIG, 0], [None, 0, -1], [-7, 1, 0], [5, 1, 0], [BIG, 1, 0], [0, -3, -4], [-5, -4, -9]):
            self.both(row[1] <= row[2] + 1 and (row[0] is None or row[1] <= row[0] + 1), cherry, "a", [row])
        for row in ([None, None, 0], [None, 1, None], [None, 2, 0], [None, 1, 1], [None, 0, BIG], [None, None, None], [1, None, 0]):
            self.both(False, cherry, "a", [row])

    def test_items_where_there_is_no_price(self):
        # The root 4 may go to 2 as well as to 9, so an integer at 2 gives it a price there.
        cherry = (*CHERRY, [(2, 1), (4, 0), (9, 1)])
        self.both(True, cherry, "a", [[-BIG, -BIG + 1, 0]])
        self.both(False, cherry, "a", [[-BIG, -BIG + 2, 0]])
        self.both(True, cherry, ("a", "b"), [[None, 0, None], [None, 1, 0], [0, 1, None]])
        self.both(False, cherry, ("a", "b"), [[None, 0, None], [3, 1, 0], [0, 1, None]])
        self.both(True, cherry, ("a", "b"), [[5, 0, None], [3, 1, 0], [0, 1, None]])
        self.both(False, cherry, ("a", "b"), [[6, 0, None], [3, 1, 0], [0, 1, None]])

    def test_bent_tables(self):
        chance, counts = random.Random(237), {True: 0, False: 0}
        for net, gene in gene_nets(120, seed=237, most=20) + [(NET, gene) for gene in GENES]:
            prices = tuple(chance.choice([0, 1, 2, 5, 999]) for _ in range(3))
            table = slow_table(net, gene, prices)
            self.both(True, net, gene, table, prices)
            for _ in range(12):
                paper = [list(row) for row in table]
                row = chance.choice(paper)
                at = chance.randrange(len(row))
                if row[at] is None:
                    row[at] = chance.choice([0, -1, 1, 5, BIG, -BIG, False])
                else:
                    row[at] = chance.choice([row[at] + 1, row[at] - 1, None, -BIG, BIG, True, str(row[at]), [row[at]]])
                wanted = slow_is_floor(net, gene, prices, paper)
                self.expect(wanted, is_floor, Net(*net[:2]), net[2], gene, paper, prices=prices)
                counts[wanted] += 1
            # Each name less is 7 less, so that the two parts of a node take from it what they are less together.
            less = [7 * len(slow_gene_names(node)) for node in slow_nodes(gene)]
            paper = [[item if item is None else item - few for item in row] for row, few in zip(table, less)]
            self.both(True, net, gene, paper, prices)
        self.assertGreater(min(counts.values()), 100)

    def test_forms(self):
        table = slow_table(NET, ("b", "a"), (2, 3, 1))
        for paper in (None, True, 0, "", (), [], [[]], tuple(table), [tuple(row) for row in table], table[:-1], table + [list(table[0])],
                      table[:-1] + [None], table[:-1] + [table[-1] + [None]], table[:-1] + [table[-1][:-1]], [table], table + [[]],
                      table[::-1], [table[0] * 2] + table[1:], [table[0]] + table[:0], [row[::-1] for row in table]):
            self.both(False, NET, ("b", "a"), paper)

    def test_truth_is_no_item(self):
        self.both(True, (*ONE_PLACE, [(7, 0)]), "a", [[0]])
        self.both(False, (*ONE_PLACE, [(7, 0)]), "a", [[False]])
        self.both(False, (*ONE_PLACE, [(7, 0)]), "a", [[True]])
        self.both(True, (*CHERRY, [(2, 1), (4, 0), (9, 1)]), "a", [[None, 1, 0]])
        self.both(False, (*CHERRY, [(2, 1), (4, 0), (9, 1)]), "a", [[None, True, 0]])

    def test_by_name(self):
        table = slow_table(NET, "a", (2, 3, 1))
        self.expect(True, is_floor, paper=table, gene="a", moments=FIT, net=Net(*DOC))
        self.expect(True, is_floor, prices=(2, 3, 1), paper=table, gene="a", moments=FIT, net=Net(*DOC))


class Errors(Case):
    def each(self, error, told, net, moments, gene, **prices):
        """Each function that takes these arguments raises the error, whatever its paper is."""
        for function in (least_price, find_history, price_table):
            self.refuses(error, told, function, net, moments, gene, **prices)
        for paper in (None, [], [[0]], ("leaf", 7), ("leaf", 0)):
            self.refuses(error, told, is_floor, net, moments, gene, paper, **prices)
            if not prices:
                for function in (history_counts, is_history):
                    self.refuses(error, told, function, net, moments, gene, paper)

    def test_bad_trees_go_ahead_of_all(self):
        for value in NO_TREES:
            if not slow_is_gene(value):
                self.each(BadTree, {"word": "form"}, Net(*DOC), None, value)
                self.each(BadTree, {"word": "form"}, Net(*DOC), FIT, value, prices=None)

    def test_bad_prices(self):
        for prices in NO_PRICES:
            for gene, moments in (("a", FIT), ("q", FIT), ("a", None), (("q", "a"), [])):
                self.each(BadValue, {"bad": prices}, Net(*DOC), moments, gene, prices=prices)
        for prices in ((0, 0, 0), (999, 999, 999), (0, 999, 1)):
            self.expect(slow_table(NET, ("b", "a"), prices), price_table, Net(*DOC), FIT, ("b", "a"), prices=prices)

    def test_strange_names_go_ahead_of_moments(self):
        for gene, bad in (("q", "q"), (("a", "q"), "q"), ((("a", "z"), "q"), "z"), (("a", ("b", ("zz", "q"))), "zz"), ("b1", "b1")):
            for moments in (FIT, None, [], BENT[-1][0]):
                self.each(NoLeaf, {"bad": bad}, Net(*DOC), moments, gene)
                self.each(NoLeaf, {"bad": bad}, Net(*DOC), moments, gene, prices=(0, 0, 999))

    def test_bad_moments(self):
        for paper, (word, at) in BENT:
            self.each(BadMoments, {"word": word, "at": at}, Net(*DOC), paper, ("a", "b"))
            self.each(BadMoments, {"word": word, "at": at}, Net(*DOC), paper, ("a", "b"), prices=(1, 1, 1))

    def test_equal_calls_behind_others(self):
        net = Net(*DOC)

        def answers():
            return [[price_table(net, FIT, gene), least_price(net, FIT, gene), find_history(net, FIT, gene)] for gene in GENES]

        before = shown(answers())
        price_table(net, FIT, ("a", "b"))[0].clear()
        price_table(net, FIT, ("a", "b"), prices=(9, 9, 9)), gene_nodes(("a", "b")).clear()
        self.assertEqual(shown(answers()), before)
        self.assertEqual((net.arrows(), net.leaves()), DOC)

    def test_squeezed_moments_give_the_same(self):
        net = read_newick("(((a)#1,(b,#1)),c);")
        moments = first_moments(net)
        later = [(place, 10 * moment - 35) for place, moment in moments]
        for gene in GENES:
            self.assertEqual(price_table(net, moments, gene), price_table(net, later, gene))
