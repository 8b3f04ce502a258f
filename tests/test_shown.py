"""Shown trees and soft clusters: points 58 to 60 and the heading levelgifts/shown.py."""

import random

from checks import Case, shown
from levelgifts.clusters import hard_clusters
from levelgifts.faults import BadPaper, BadTree, TooMany
from levelgifts.moments import gifts
from levelgifts.nets import Net
from levelgifts.newick import read_newick
from levelgifts.pluck import can_be_plucked, put_back
from levelgifts.shown import (
    choices, count_shown, find_showing, is_showing, shown_trees, soft_clusters, tree_by_choice,
)
from levelgifts.stuck import first_moments
from levelgifts.treebased import support_of_moments
from levelgifts.trees import tree_text
from samples import CHERRY, DOC, KNOT, ONE_PLACE, SAMPLES, SHORT, STACK, caterpillar, greatest, random_nets, stacked
from slow_kinds import mixings_of, slow_choices, slow_cluster, slow_is_support
from slow_moments import places_of
from slow_shown import slow_shown, slow_soft, slow_text_of, slow_tree
from slow_trees import slow_names
from test_trees import NO_TREES, left_comb
from test_treebased import BOTH, LOW, STRANGE, TOWER

BIG = 10 ** 59
FEW = [sample for sample in SAMPLES + random_nets(250, seed=201) if len(mixings_of(sample[0])) <= 6]
# The split 2 loses both its children with a choice.
HOLLOW = ([(9, 1), (9, 0), (1, 2), (1, 3), (2, 3), (2, 4), (3, 5), (0, 4), (0, 6), (4, 7)], [(5, "c"), (6, "a"), (7, "b")])


def mixed(many, leaves=8):
    """A net with so many mixings that can be plucked down."""
    net = Net(*caterpillar(leaves))
    for k in range(many):
        net = put_back(net, (f"n{k % leaves}", f"n{(k + 3) % leaves}"))
    return net


class Choices(Case):
    def test_small(self):
        self.expect([[]], choices, Net(*ONE_PLACE))
        self.expect([[]], choices, Net(*caterpillar(12)))
        self.expect([[(3, 1)], [(3, 5)]], choices, Net(*DOC))
        self.expect([[(1, 7), (2, 7)], [(1, 7), (2, 8)], [(1, 8), (2, 7)], [(1, 8), (2, 8)]], choices, net=Net(*KNOT))

    def test_all_nets(self):
        for arrows, leaves in FEW:
            found = self.call(choices, Net(arrows, leaves))
            self.assertEqual(found, slow_choices(arrows))
            self.assertEqual(found, sorted(found))
            self.assertEqual(len(found), 2 ** len(mixings_of(arrows)))

    def test_the_bound(self):
        self.assertEqual(len(self.call(choices, mixed(6))), 64)
        self.assertEqual(len(self.call(choices, Net(*stacked(6)))), 64)
        for many in (7, 8):
            for net in (mixed(many), Net(*stacked(many))):
                for function in (choices, shown_trees, count_shown, soft_clusters):
                    self.refuses(TooMany, {"word": "mixings", "many": many}, function, net)


class Trees(Case):
    def test_small(self):
        net = Net(*DOC)
        self.expect((("a", "b"), "c"), tree_by_choice, net, [(3, 1)])
        self.expect(("a", ("b", "c")), tree_by_choice, net, [(3, 5)])
        self.expect("a", tree_by_choice, Net(*ONE_PLACE), [])
        self.expect(("a", "b"), tree_by_choice, Net(*CHERRY), [])
        self.expect(("a", ("n0", "n1")), tree_by_choice, read_newick("((n1,n0),a);"), [])
        self.expect(("x", "y1"), tree_by_choice, paper=[(0, 3)], net=Net(*SHORT))

    def test_places_without_children_again_and_again(self):
        net = Net(*HOLLOW)
        self.expect(("a", ("b", "c")), tree_by_choice, net, [(3, 2), (4, 2)])
        self.expect((("a", "b"), "c"), tree_by_choice, net, [(3, 2), (4, 0)])
        self.expect(("a", ("b", "c")), tree_by_choice, net, [(3, 1), (4, 2)])
        self.expect((("a", "b"), "c"), tree_by_choice, net, [(3, 1), (4, 0)])
        # In the tower a mixing is left without its child, and a split above it may then have none either.
        for choice in slow_choices(TOWER[0]):
            self.expect("a", tree_by_choice, Net(*TOWER), choice)
        net = read_newick("(((((a)#3)#1,(#3)#2),(#1,#2)),b);")
        for choice in slow_choices(net.arrows()):
            self.expect(("a", "b"), tree_by_choice, net, choice)

    def test_the_root_is_left_out(self):
        net = read_newick("((((a)#2)#1,#2),#1);")
        self.assertEqual(net.mixings(), [2, 3])
        self.expect("a", tree_by_choice, net, [(2, 0), (3, 1)])
        net = read_newick("((a,(b)#1),#1);")
        self.expect(("a", "b"), tree_by_choice, net, [(3, 1)])
        self.expect(("a", "b"), tree_by_choice, net, [(3, 0)])

    def test_all_choices_of_all_nets(self):
        for arrows, leaves in FEW:
            net = Net(arrows, leaves)
            for choice in slow_choices(arrows):
                tree = tree_by_choice(net, choice)
                self.assertEqual(tree, slow_tree(arrows, leaves, choice))
                self.assertEqual(sorted(slow_names(tree)), net.names())
                self.assertIs(is_showing(net, tree, choice), True)

    def test_many_mixings(self):
        chance = random.Random(202)
        for net in (mixed(7), mixed(8), mixed(8, 12), Net(*stacked(8)), Net(*greatest())):
            every = slow_choices(net.arrows())
            for choice in chance.sample(every, 20):
                tree = self.call(tree_by_choice, net, choice)
                self.assertEqual(tree, slow_tree(net.arrows(), net.leaves(), choice))
                self.expect(True, is_showing, net, tree, choice)

    def test_no_choices(self):
        net = Net(*KNOT)
        for paper in STRANGE + [[], BOTH[:1], BOTH[1:], BOTH[::-1], BOTH + BOTH[1:], [(1, 7), (1, 8)], [(1, 7), (2, 9)],
                                [(1, 9), (2, 8)], [(1, 7), (2, 5)], [(1, 7), (2, BIG)], BOTH + [(9, 9)], BOTH * 200]:
            self.refuses(BadPaper, {"word": "choice"}, tree_by_choice, net, paper)
            for tree in (("a", "b"), "a", ("a", "q")):
                self.expect(False, is_showing, net, tree, paper)
        for paper in ([(False, 7), (1, 8)], [(0, 7), (True, 8)]):
            self.refuses(BadPaper, {"word": "choice"}, tree_by_choice, Net(*LOW), paper)
            self.expect(False, is_showing, Net(*LOW), ("a", "b"), paper)
        for paper in STRANGE + [[(7, 7)]]:
            self.refuses(BadPaper, {"word": "choice"}, tree_by_choice, Net(*ONE_PLACE), paper)

    def test_the_support_of_moments(self):
        for arrows, leaves in FEW:
            net = Net(arrows, leaves)
            if can_be_plucked(net):
                moments = first_moments(net)
                choice = support_of_moments(net, moments)
                self.assertTrue(slow_is_support(arrows, choice))
                gone = [(u, v) for v, kept in choice for u in net.mothers(v) if u != kept]
                self.assertEqual(gifts(net, moments), sorted(gone))
                self.expect(True, is_showing, net, tree_by_choice(net, choice), choice)


class Shown(Case):
    def test_the_example(self):
        net = read_newick("((a,(b)#1),(#1,c));")
        self.expect([((("a", "b"), "c"), 1), (("a", ("b", "c")), 1)], shown_trees, net)
        self.expect((2, 2), count_shown, net)

    def test_small(self):
        self.expect([("a", 1)], shown_trees, Net(*ONE_PLACE))
        self.expect((1, 1), count_shown, Net(*ONE_PLACE))
        self.expect([("a", 64)], shown_trees, Net(*stacked(6)))
        self.expect((1, 64), count_shown, net=Net(*stacked(6)))
        self.expect([(("a", "zz"), 4)], shown_trees, net=Net(*STACK))
        self.expect([(("a", "b"), 4)], shown_trees, Net(*KNOT))
        self.expect((1, 4), count_shown, Net(*KNOT))

    def test_the_order_is_that_of_the_texts(self):
        # As values the trees stand the other way round, or cannot be compared at all.
        net = read_newick("((a,(b1)#1),((#1,b),c));")
        found = self.call(shown_trees, net)
        self.assertEqual([tree_text(tree) for tree, count in found], ["((a,b1),(b,c));", "(a,((b,b1),c));"])
        for net in (mixed(4), mixed(5), mixed(6)):
            texts = [slow_text_of(tree) for tree, count in shown_trees(net)]
            self.assertEqual(texts, sorted(set(texts)))
            self.assertGreater(len(texts), 5)

    def test_all_nets(self):
        several = 0
        for arrows, leaves in FEW:
            net, wanted = Net(arrows, leaves), slow_shown(arrows, leaves)
            self.expect(wanted, shown_trees, net)
            self.expect((len(wanted), 2 ** len(mixings_of(arrows))), count_shown, net)
            several += 1 < len(wanted) < 2 ** len(mixings_of(arrows))
        self.assertGreater(several, 5)

    def test_soft_and_hard_clusters(self):
        soft = [("a",), ("a", "b"), ("a", "b", "c"), ("b",), ("b", "c"), ("c",)]
        self.expect(soft, soft_clusters, Net(*DOC))
        self.expect([("a",)], soft_clusters, net=Net(*ONE_PLACE))
        other = {True: 0, False: 0}
        for arrows, leaves in FEW:
            net = Net(arrows, leaves)
            wanted = slow_soft(arrows, leaves)
            self.expect(wanted, soft_clusters, net)
            hard = {tuple(slow_cluster(arrows, leaves, place)) for place in places_of(arrows, leaves)}
            self.expect(sorted(hard), hard_clusters, net)
            other[sorted(hard) == wanted] += 1
        self.assertGreater(min(other.values()), 20)


class Showing(Case):
    def test_the_least_choice(self):
        net = Net(*KNOT)
        self.expect([(1, 7), (2, 7)], find_showing, net, ("a", "b"))
        self.expect([(3, 5)], find_showing, Net(*DOC), ("a", ("b", "c")))
        self.expect([], find_showing, Net(*ONE_PLACE), "a")
        for arrows, leaves in FEW:
            net, every = Net(arrows, leaves), slow_choices(arrows)
            trees = [slow_tree(arrows, leaves, choice) for choice in every]
            for tree in trees[::5]:
                self.expect(every[trees.index(tree)], find_showing, net, tree)

    def test_trees_that_are_not_shown(self):
        for tree in ((("a", "c"), "b"), "a", ("a", "b"), (("a", "b"), "d"), ((("a", "b"), "c"), "d"), left_comb(12)):
            self.expect(None, find_showing, Net(*DOC), tree)
            for choice in ([(3, 1)], [(3, 5)]):
                self.expect(False, is_showing, Net(*DOC), tree, choice)
        self.expect(False, is_showing, Net(*DOC), (("a", "b"), "c"), [(3, 5)])
        self.expect(None, find_showing, tree="b", net=Net(*ONE_PLACE))

    def test_bad_trees_go_ahead(self):
        for value in NO_TREES:
            for net in (Net(*DOC), Net(*ONE_PLACE), mixed(7), Net(*stacked(8))):
                self.refuses(BadTree, {"word": "form"}, find_showing, net, value)
                for paper in ([(3, 1)], [], None, (), [True]):
                    self.refuses(BadTree, {"word": "form"}, is_showing, net, value, paper)

    def test_the_bound_goes_ahead_of_the_names(self):
        for tree in ("a", "q", ("a", "b"), left_comb(12)):
            for many in (7, 8):
                self.refuses(TooMany, {"word": "mixings", "many": many}, find_showing, Net(*stacked(many)), tree)
                self.expect(False, is_showing, Net(*stacked(many)), tree, [])
        self.expect([(k, k - 6) for k in range(6, 12)], find_showing, Net(*stacked(6)), "a")

    def test_papers_of_any_kind(self):
        for paper in STRANGE + [[], [(3, 1), (3, 5)], [(3, 0)], [(3, 2)], [[3, 1]], ((3, 1),), [(3, True)], [(3, "1")]]:
            self.expect(False, is_showing, Net(*DOC), (("a", "b"), "c"), paper)
        self.expect(True, is_showing, paper=[(3, 1)], tree=(("a", "b"), "c"), net=Net(*DOC))
        self.expect(True, is_showing, Net(*ONE_PLACE), "a", [])
        self.expect(False, is_showing, Net(*ONE_PLACE), "b", [])

    def test_equal_calls_behind_others(self):
        net = Net(*KNOT)

        def answers():
            return [choices(net), shown_trees(net), count_shown(net), soft_clusters(net), find_showing(net, ("a", "b"))]

        before = shown(answers())
        for found in answers():
            if isinstance(found, list):
                found.clear()
        choices(Net(*DOC)), shown_trees(mixed(4)), tree_by_choice(net, BOTH)
        self.assertEqual(shown(answers()), before)
        self.assertEqual((net.arrows(), net.leaves()), (sorted(KNOT[0]), sorted(KNOT[1])))
