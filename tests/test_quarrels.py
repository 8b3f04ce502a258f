"""Quarrels, spans and bound papers: points 65 to 67 and the heading levelgifts/quarrels.py."""

import random
from itertools import combinations, product

from checks import Case, shown
from levelgifts.faults import BadTree, BadValue, TooMany, Unlike
from levelgifts.quarrels import bound_paper, is_bound_paper, quarrels, span
from samples import SAMPLES, random_nets
from slow_hybrid import slow_bound, slow_is_bound, slow_quarrels, slow_span
from slow_kinds import mixings_of
from slow_shown import slow_shown
from slow_trees import all_trees, random_tree, slow_names
from test_shown import mixed
from test_trees import NAMES, NO_TREES, left_comb, right_comb

ONE, OTHER = (("a", "b"), "c"), ("a", ("b", "c"))
ABC = ("a", "b", "c")
# Their bound paper has two triples.
FIRST, SECOND = ((("a", "b"), "c"), (("d", "e"), "f")), (("a", ("b", "c")), ("d", ("e", "f")))
STRANGE = [None, True, False, 0, 1, 10 ** 59, "", "abc", (), (ABC,), ABC, [None], [True], [1], ["abc"], [[]], [()], [list(ABC)],
           [("a", "b")], [ABC + ("d",)], [("a", "b", 1)], [("a", "b", None)], [("a", "b", ["c"])], [[ABC]], [(ABC,)]]


def two_trees(chance, most=8):
    names = chance.sample(NAMES, chance.randrange(1, most + 1))
    return random_tree(chance, names), random_tree(chance, names)


class Quarrels(Case):
    def test_small(self):
        self.expect([ABC], quarrels, ONE, OTHER)
        self.expect([], quarrels, second=ONE, first=ONE)
        self.expect([], quarrels, "a", "a")
        self.expect([], quarrels, ("a", "b"), ("a", "b"))
        self.expect([("a", "b", "c"), ("a", "b", "d"), ("a", "c", "d"), ("b", "c", "d")], quarrels, left_comb(4), right_comb(4))

    def test_all_small_trees(self):
        for names in (["a", "aa", "b"], ["a", "b", "c", "d"]):
            for one, other in product(all_trees(names), repeat=2):
                self.expect(slow_quarrels(one, other), quarrels, one, other)

    def test_great_trees(self):
        chance = random.Random(221)
        for _ in range(100):
            one, other = two_trees(chance)
            self.expect(slow_quarrels(one, other), quarrels, one, other)

    def test_a_triple_without_quarrel(self):
        self.assertEqual(quarrels(left_comb(5), ((("a", "b"), ("c", "d")), "e")), [("a", "c", "d"), ("b", "c", "d")])


class Spans(Case):
    def test_small(self):
        self.expect([("a",), ("a", "b"), ("b",), ("c",)], span, ONE, ABC)
        self.expect([("a",), ("b",), ("b", "c"), ("c",)], span, triple=ABC, tree=OTHER)

    def test_clusters_of_other_names(self):
        wanted = [("a",), ("a", "b"), ("a", "b", "c"), ("b",), ("d",)]
        self.expect(wanted, span, left_comb(4), ("a", "b", "d"))
        self.expect(slow_span(left_comb(12), ("a", "k", "l")), span, left_comb(12), ("a", "k", "l"))

    def test_all_triples(self):
        chance = random.Random(222)
        for tree in all_trees(NAMES[:4]) + [random_tree(chance, NAMES) for _ in range(10)]:
            for three in combinations(sorted(slow_names(tree)), 3):
                self.expect(slow_span(tree, three), span, tree, three)

    def test_triples_of_any_kind(self):
        for value in STRANGE + [("a", "c", "b"), ("c", "b", "a"), ("a", "a", "b"), ("a", "b", "b"), ("a", "a", "a"), ("a", "b", "q"),
                                ("A", "b", "c"), ("a", "b", "c", "c"), ("a", "b", True), (0, 1, 2), ("", "a", "b")]:
            if value != ABC:
                self.refuses(BadValue, {"bad": value}, span, ONE, value)
            self.refuses(BadValue, {"bad": value}, span, ("a", "b"), value)
            self.refuses(BadValue, {"bad": value}, span, "a", value)

    def test_bad_trees_go_ahead(self):
        for value in NO_TREES:
            for triple in (ABC, None, ("b", "a", "c")):
                self.refuses(BadTree, {"word": "form"}, span, value, triple)


class BoundPapers(Case):
    def test_the_example(self):
        self.expect([("a", "b", "c")], bound_paper, (("a", "b"), "c"), ("a", ("b", "c")))

    def test_small(self):
        self.expect([ABC, ("d", "e", "f")], bound_paper, FIRST, SECOND)
        self.expect([], bound_paper, second=ONE, first=ONE)
        self.expect([], bound_paper, "a", "a")
        for paper in ([], [ABC], [("d", "e", "f")], [ABC, ("d", "e", "f")]):
            self.expect(True, is_bound_paper, FIRST, SECOND, paper)

    def test_bent_papers(self):
        three = ("d", "e", "f")
        self.assertIn(("a", "b", "c"), quarrels(FIRST, SECOND))
        self.assertNotIn(("a", "b", "d"), quarrels(FIRST, SECOND))
        for paper in ([three, ABC], [ABC, ABC], [ABC, three, three], [("c", "b", "a")], [("a", "b", "d")], [("a", "a", "b")],
                      [ABC, ("a", "b", "d")], [("a", "b", "q")], [ABC, list(three)], [ABC, three, None], [ABC] * 400):
            self.expect(False, is_bound_paper, FIRST, SECOND, paper)
        # These quarrel, but their spans have clusters in common.
        paper = quarrels(left_comb(4), right_comb(4))[:2]
        self.expect(False, is_bound_paper, left_comb(4), right_comb(4), paper)
        self.expect(True, is_bound_paper, left_comb(4), right_comb(4), paper[:1])

    def test_papers_of_any_kind(self):
        for paper in STRANGE:
            self.expect(False, is_bound_paper, ONE, OTHER, paper)
            self.expect(False, is_bound_paper, "a", "a", paper)
        self.expect(True, is_bound_paper, paper=[ABC], second=OTHER, first=ONE)
        self.expect(True, is_bound_paper, "a", "a", [])

    def test_the_spans_are_those_of_the_first_tree(self):
        chance, apart = random.Random(223), 0
        while apart < 3:
            one, other = two_trees(chance, 7)
            paper = bound_paper(one, other)
            if len(paper) > 1:
                there_and_back = [slow_is_bound(one, other, paper), slow_is_bound(other, one, paper)]
                self.assertEqual([is_bound_paper(one, other, paper), is_bound_paper(other, one, paper)], there_and_back)
                apart += there_and_back == [True, False]

    def test_random_papers(self):
        chance, counts = random.Random(224), {True: 0, False: 0}
        for _ in range(120):
            one, other = two_trees(chance)
            names = sorted(slow_names(one))
            found = self.call(bound_paper, one, other)
            self.assertEqual(found, slow_bound(one, other))
            papers = [found, found[::2], found[::-1], found + found[:1]]
            papers += [sorted(chance.sample(list(combinations(names, 3)), 2)) for _ in range(4) if len(names) > 3]
            for paper in papers:
                wanted = slow_is_bound(one, other, paper)
                self.expect(wanted, is_bound_paper, one, other, paper)
                counts[wanted] += 1
        self.assertGreater(min(counts.values()), 50)

    def test_shown_trees_need_as_many_mixings(self):
        reached = set()
        nets = SAMPLES + random_nets(150, seed=225) + [(net.arrows(), net.leaves()) for net in [mixed(k) for k in range(1, 7)]]
        for arrows, leaves in nets:
            many = len(mixings_of(arrows))
            if many <= 6 and len(leaves) <= 8:
                trees = [tree for tree, count in slow_shown(*[sorted(part) for part in (arrows, leaves)])]
                for one, other in list(product(trees, repeat=2))[:100]:
                    found = bound_paper(one, other)
                    self.assertLessEqual(len(found), many)
                    reached.add((len(found), many))
        self.assertIn((1, 1), reached)
        self.assertTrue({(2, many) for many in range(2, 7)} & reached)

    def test_equal_calls_behind_others(self):
        for _ in range(3):
            self.assertEqual(shown([quarrels(FIRST, SECOND), bound_paper(FIRST, SECOND), span(FIRST, ABC)]),
                             shown([slow_quarrels(FIRST, SECOND), slow_bound(FIRST, SECOND), slow_span(FIRST, ABC)]))
            bound_paper(FIRST, SECOND).clear()
            quarrels(FIRST, SECOND).clear()
            span(FIRST, ABC).clear()
            quarrels(SECOND, FIRST)


class Errors(Case):
    def each(self, error, told, first, second):
        for function in (quarrels, bound_paper):
            self.refuses(error, told, function, first, second)
        for paper in ([], [ABC], None, [1]):
            self.refuses(error, told, is_bound_paper, first, second, paper)

    def test_bad_trees(self):
        for value in NO_TREES:
            for other in ("a", ("a", "b"), left_comb(12), None):
                self.each(BadTree, {"word": "form"}, value, other)
                self.each(BadTree, {"word": "form"}, other, value)

    def test_other_names(self):
        for one, other, bad in (("a", "b", "a"), ("b", "a", "a"), (ONE, ("a", "b"), "c"), (ONE, (("a", "b"), "d"), "c"),
                                (("a", "b"), ("a", "aa"), "aa"), (left_comb(12), left_comb(11), "l"), ("a", left_comb(12), "b")):
            self.each(Unlike, {"bad": bad}, one, other)

    def test_the_bound(self):
        for many in (9, 10, 12):
            for tree in (left_comb(many), right_comb(many)):
                self.each(TooMany, {"word": "leaves", "many": many}, tree, left_comb(many))
        self.expect(list(combinations("abcdefgh", 3)), quarrels, left_comb(8), right_comb(8))
        self.expect(slow_bound(left_comb(8), right_comb(8)), bound_paper, left_comb(8), right_comb(8))
        self.expect(True, is_bound_paper, left_comb(8), left_comb(8), [])
