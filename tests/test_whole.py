"""What is promised over the whole program: the main promise, points 1, 2 and 6, and the bounds of point 10."""

import inspect
import random
import time
from importlib import import_module

from checks import Case, lists_in, shown
from levelgifts.drawnet import all_orders, best_order, crossings, draw
from levelgifts.edits import edit_all, edit_effect, edit_net
from levelgifts.faults import (
    BadEdit, BadMoments, BadName, BadPaper, BadRow, BadTree, BadValue, NoArrow, NoLeaf, NoPair, NoPlace, TooMany, Unlike,
)
from levelgifts.hybrid import common_row, net_of_common_row
from levelgifts.judge import is_paper, judge_all, papers_for
from levelgifts.keep import Keeper
from levelgifts.knots import greatest_knot, is_knot
from levelgifts.momentjudge import is_moments
from levelgifts.moments import all_moments, tree_leaves
from levelgifts.nets import Net, renumber
from levelgifts.newick import read_newick, write_newick
from levelgifts.pluck import all_rows, build, can_be_plucked, is_row, pluck, put_back, rests
from levelgifts.quarrels import bound_paper, is_bound_paper, quarrels, span
from levelgifts.reconcile import find_history, history_counts, is_floor, least_price
from levelgifts.roads import row_of_moments
from levelgifts.script import run_script
from levelgifts.shown import find_showing, shown_trees
from levelgifts.stuck import find_match, first_moments, stuck_rest, verdict
from levelgifts.trees import outer_of, restrict
from levelgifts.treebased import find_support
from samples import CHERRY, DOC, KNOT, ONE_PLACE, SAMPLES, caterpillar, greatest, random_nets, stacked
from slow_edits import slow_edit
from slow_knots import inner_of
from slow_moments import slow_all, slow_moment_fault
from slow_rows import slow_pairs, slow_pluck
from slow_trees import random_tree
from test_interface import FUNCTIONS
from test_moments import FIT
from test_trees import left_comb

BIG = 10 ** 59


def grown_nets(steps):
    """Lists of the nets that come about from a one-place net by so many edits that hang leaves and tie arrows."""
    levels = [{"a;": ([], [(0, "a")])}]
    for step in range(steps):
        behind = {}
        for arrows, leaves in levels[-1].values():
            edits = [("hang", "bcdefg"[step], at) for at in [None] + arrows]
            edits += [("tie", one, other) for one in arrows for other in arrows]
            for edit in edits:
                word, told = slow_edit(arrows, leaves, edit)
                if word == "net":
                    behind.setdefault(write_newick(Net(*told)), told)
        levels.append(behind)
    return [list(level.values()) for level in levels]


def ends_of(arrows, leaves):
    """The inner places of what is left behind each maximal row, as a set of tuples."""
    waiting, met, ends = [(sorted(arrows), sorted(leaves))], set(), set()
    while waiting:
        net = waiting.pop()
        if repr(net) not in met:
            met.add(repr(net))
            found = slow_pairs(*net)
            if not found:
                ends.add(tuple(inner_of(net[0])))
            waiting += [slow_pluck(*net, pair) for pair in found]
    return ends


def great(leaves, mixings):
    net = Net(*caterpillar(leaves))
    for k in range(mixings):
        net = put_back(net, (f"n{k % leaves}", f"n{(k + 5) % leaves}"))
    return net


class MainPromise(Case):
    def check(self, arrows, leaves):
        """The four ways to tell are one. True if the net can be plucked down."""
        net, ends = Net(arrows, leaves), ends_of(arrows, leaves)
        # Every order of pluckings comes to the same inner places: to none, or to those of the greatest knot.
        self.assertEqual(ends, {tuple(greatest_knot(net))})
        down = ends == {()}
        self.assertIs(can_be_plucked(net), down)
        answer, row, told = verdict(net)
        self.assertEqual(answer, "yes" if down else "no")
        if down:
            self.assertIsNone(slow_moment_fault(arrows, leaves, told))
            self.assertTrue(is_row(net, row) and is_row(net, row_of_moments(net, told)))
        else:
            self.assertTrue(is_knot(net, told))
            self.assertEqual(stuck_rest(net).inner(), told)
        many = len(net.inner())
        if many <= 4:
            self.assertEqual(bool(slow_all(arrows, leaves, max(many, 1))), down)
        if many <= 7:
            self.assertEqual(bool(all_moments(net, ranks=max(many, 1), limit=1)), down)
        return down

    def test_all_small_nets(self):
        found = {True: 0, False: 0}
        levels = grown_nets(4)
        self.assertEqual([len(level) for level in levels], [1, 1, 5, 81, 2439])
        for level in levels:
            for arrows, leaves in level:
                found[self.check(arrows, leaves)] += 1
        self.assertGreater(min(found.values()), 1000)

    def test_nets_of_all_kinds(self):
        found = {True: 0, False: 0}
        for arrows, leaves in SAMPLES[:8] + random_nets(200, seed=292):
            if len(leaves) <= 6:
                found[self.check(arrows, leaves)] += 1
        self.assertGreater(min(found.values()), 20)


class Order(Case):
    def test_several_that_are_due(self):
        net, knot, full, full8 = Net(*DOC), Net(*KNOT), Net(*caterpillar(12)), Net(*stacked(8))
        for error, told, function, passed, named in (
            (BadName, {"bad": "A"}, put_back, (full, ("A", "q")), {}),
            (NoLeaf, {"bad": "q"}, put_back, (full, ("new", "q")), {}),
            (NoLeaf, {"bad": "A"}, put_back, (full8, ("a", "A")), {}),
            (NoPair, {"bad": ("a", "a")}, put_back, (full8, ("a", "a")), {}),
            (BadName, {"bad": "1"}, build, ([("", "")],), {"last": "1"}),
            (BadValue, {"bad": 0}, all_rows, (full,), {"limit": 0}),
            (BadValue, {"bad": 8}, all_moments, (full,), {"ranks": 8, "limit": 0}),
            (BadValue, {"bad": 61}, all_moments, (full,), {"ranks": 7, "limit": 61}),
            (NoPlace, {"bad": 77}, tree_leaves, (net, None, 77), {}),
            (BadMoments, {"word": "form", "at": None}, crossings, (net, None, None), {}),
            (BadMoments, {"word": "back", "at": (4, 2)}, draw, (Net(*CHERRY), [(2, 0), (4, 0), (9, 0)], []), {}),
            (BadMoments, {"word": "form", "at": None}, all_orders, (full, []), {}),
            (BadTree, {"word": "form"}, restrict, (("b", "a"), []), {}),
            (BadValue, {"bad": []}, restrict, (("a", "b"), []), {}),
            (BadValue, {"bad": "q"}, outer_of, (("a", "b"), "q", "q", "r"), {}),
            (BadTree, {"word": "form"}, find_showing, (full8, ("b", "a")), {}),
            (TooMany, {"word": "mixings", "many": 8}, find_showing, (full8, "q"), {}),
            (BadTree, {"word": "form"}, common_row, (["a", "b", "c", "d", "E"],), {}),
            (BadValue, {"bad": 4}, common_row, (["a", "b", "c", "d"],), {}),
            (Unlike, {"bad": "l"}, common_row, ([left_comb(12), left_comb(11)],), {}),
            (TooMany, {"word": "leaves", "many": 6}, common_row, ([left_comb(6), left_comb(6)],), {}),
            (Unlike, {"bad": "b"}, net_of_common_row, ([("a", "b"), "a"], None), {}),
            (BadPaper, {"word": "row"}, net_of_common_row, ([left_comb(12)] * 2, None), {}),
            (Unlike, {"bad": "a"}, is_bound_paper, ("a", "b", None), {}),
            (TooMany, {"word": "leaves", "many": 9}, quarrels, (left_comb(9), left_comb(9)), {}),
            (BadTree, {"word": "form"}, span, (("b", "a"), None), {}),
            (BadTree, {"word": "form"}, least_price, (net, None, ("q", 1)), {"prices": None}),
            (BadValue, {"bad": None}, least_price, (net, None, "q"), {"prices": None}),
            (NoLeaf, {"bad": "q"}, find_history, (net, None, "q"), {}),
            (BadMoments, {"word": "form", "at": None}, history_counts, (net, None, "a", None), {}),
            (BadMoments, {"word": "form", "at": None}, is_floor, (net, [], "a", [[]]), {}),
            (BadValue, {"bad": "rows"}, is_paper, ("rows", net, None), {}),
            (NoArrow, {"bad": (BIG, 0)}, edit_net, (full, ("hang", "n0", (BIG, 0))), {}),
            (BadEdit, {"word": "taken"}, edit_net, (full, ("hang", "n0", None)), {}),
            (BadEdit, {"word": "form"}, edit_all, (knot, [("drop", 1), ("drop", "q")]), {}),
            (BadEdit, {"word": "same"}, edit_effect, (full8, ("tie", (0, 1), (0, 1))), {}),
            (TooMany, {"word": "lines", "many": 21}, run_script, ("net\n" * 20,), {}),
            (BadPaper, {"word": "numbers"}, renumber, (net, [(0, 0)]), {}),
        ):
            self.refuses(error, told, function, *passed, **named)

    def test_rests_are_not_looked_at_ahead(self):
        walk = rests(Net(*DOC), [("b", "a"), ("q", "q")])
        self.assertEqual(write_newick(next(walk)), "(a,(b,c));")
        with self.assertRaises(BadRow) as caught:
            next(walk)
        self.assertEqual(caught.exception.at, 1)


class Sweep(Case):
    """Each function of the interface, called as it may be."""

    def passed_for(self, net, name, line):
        """The arguments of a call, by their names."""
        words = list(inspect.signature(getattr(import_module(f"levelgifts.{name}"), line.split("(")[0])).parameters)
        moments = first_moments(net) if can_be_plucked(net) else None
        order = self.order_of(net, moments)
        names = net.names()
        tree = names[0]
        for other in names[1:]:
            tree = (tree, other)
        gene = (names[0], names[-1])
        given = {
            "value": tree, "arrows": net.arrows(), "leaves": net.leaves(), "first": net, "second": net, "net": net,
            "paper": self.paper_for(net, line, moments, order, tree, gene), "match": [(p, p) for p in net.places()],
            "one": [(p, p) for p in net.places()], "other": [(p, p) for p in net.places()],
            "text": write_newick(net), "pair": (names[0], names[0]), "row": [], "last": "a", "limit": 3, "moments": moments,
            "place": net.root, "moment": 0, "ranks": 7, "members": net.inner(), "kind": "tree", "tree": tree, "names": names[:1],
            "a": "a", "b": "b", "c": "c", "trees": [tree, tree], "triple": tuple(names[:3]), "gene": gene, "prices": (1, 2, 3),
            "order": order, "edit": ("hang", "new", None), "edits": [("hang", "new", None), ("drop", "new")], "word": "row",
            "papers": papers_for(net),
        }
        if name == "quarrels":
            given.update({"first": tree, "second": tree})
        if name == "kinds":
            given.update({"first": "tree", "second": "pluckable"})
        if name == "script":
            given["text"] = f"net {given['text']}\nverdict\nhang new\nkinds\nundo\nshow"
        if name == "trees" and "text" in words:
            given["text"] = "((a,c),b);"
        return {word: given[word] for word in words}

    def order_of(self, net, moments):
        if moments is None:
            return net.names()
        at, order, waiting = dict(moments), [], [net.root]
        while waiting:
            place = waiting.pop()
            order += [name for name in [net.name_of(place)] if name is not None]
            waiting += [child for child in net.children(place) if at[child] != at[place]]
        return order

    def paper_for(self, net, line, moments, order, tree, gene):
        """A right paper, where there is one."""
        word = line.split("(")[0]
        if word in ("is_moments", "moment_fault"):
            return moments
        if word == "is_order":
            return order
        if word == "tree_by_choice" or word in ("is_support", "is_choice", "is_showing"):
            return [(mixing, net.mothers(mixing)[0]) for mixing in net.mixings()]
        if word in ("row_from_profile", "net_from_profile", "is_profile_of"):
            return dict(papers_for(net))["profile"]
        if word in ("renumber", "is_match"):
            return [(place, place) for place in net.places()]
        if word == "tree_from_clusters":
            return [("a",)]
        return list(dict(papers_for(net)).get("knot", [])) if word == "is_knot" else []

    def test_every_function(self):
        called, refused = set(), set()
        for arrows, leaves in SAMPLES + random_nets(40, seed=293):
            net = Net(arrows, leaves)
            for name, lines in FUNCTIONS.items():
                for line in lines:
                    word = line.split("(")[0]
                    function = getattr(import_module(f"levelgifts.{name}"), word)
                    if word != "rests":
                        self.sweep(function, self.passed_for(net, name, line), called, refused)
            self.assertEqual(shown(net), shown(Net(arrows, leaves)))
        every = {line.split("(")[0] for lines in FUNCTIONS.values() for line in lines}
        # A pair of two equal names can be told of, but never be plucked.
        self.assertEqual(every - called, {"rests", "pluck", "put_back", "pair_places"})
        self.assertGreater(len(refused), 10)

    def sweep(self, function, passed, called, refused):
        """The call, or its refusal, is the same each time, changes nothing and keeps nothing."""
        word = function.__name__
        try:
            function(**passed)
        except ValueError as error:
            refused.add(word)
            self.refuses(type(error), vars(error), function, **passed)
        else:
            called.add(word)
            found = self.call(function, **passed)
            for item in lists_in(found):
                item.append("later")
            self.assertNotIn("later", repr(self.call(function, **passed)))


class GreatNets(Case):
    """Nets up to the bounds are answered in a short time."""

    def setUp(self):
        self.begun = time.monotonic()

    def tearDown(self):
        # Much longer than it takes, for slow machines.
        self.assertLess(time.monotonic() - self.begun, 60)

    def test_all_that_tells_of_a_net(self):
        for net in (great(12, 8), Net(*greatest()), Net(*stacked(8)), great(7, 8), great(12, 6)):
            found = papers_for(net)
            self.assertEqual(judge_all(net, found), [True] * len(found))
            text = write_newick(net)
            lines = ["verdict", "moments", "knot", "kinds", "level", "trees", "row", "pairs", "show"]
            report = run_script("\n".join([f"net {text}"] + lines * 2))
            self.assertEqual(report[1:10], report[10:])
            self.assertIsNotNone(find_support(net))

    def test_drawings(self):
        for leaves in (6, 7):
            net = great(leaves, 8)
            moments = first_moments(net)
            order = best_order(net, moments)
            self.assertEqual(min(crossings(net, moments, each) for each in all_orders(net, moments)), crossings(net, moments, order))
            self.assertEqual(len(draw(net, moments, order)[0]), 2 * leaves - 1)

    def test_keepers(self):
        net = great(12, 8)
        keeper = Keeper(net)
        row = verdict(net)[1]
        for x, y in row:
            self.assertEqual(keeper.effect(("pluck", x, y)), "same")
            keeper.apply(("pluck", x, y))
        self.assertEqual(len(keeper.net.places()), 1)
        while keeper.undo():
            self.assertEqual(keeper.answer()[0], "yes")
        self.assertTrue(keeper.net == net)

    def test_shown_trees_and_gene_trees(self):
        net = great(12, 6)
        trees = shown_trees(net)
        self.assertEqual(sum(count for tree, count in trees), 64)
        self.assertTrue(all(find_showing(net, tree) is not None for tree, count in trees[:5]))
        net = great(12, 8)
        moments = first_moments(net)
        gene = ((("n0", "n1"), ("n2", "n3")), (("n4", "n5"), ("n0", "n0")))
        paper = find_history(net, moments, gene)
        self.assertEqual(sum(a * b for a, b in zip(history_counts(net, moments, gene, paper), (2, 3, 1))),
                         least_price(net, moments, gene))

    def test_several_trees(self):
        chance = random.Random(294)
        for many, names in ((2, "abcde"), (3, "abcd")):
            for _ in range(10):
                trees = [random_tree(chance, list(names)) for _ in range(many)]
                row = common_row(trees)
                net = net_of_common_row(trees, row)
                self.assertTrue(all(find_showing(net, tree) is not None for tree in trees))
                self.assertLessEqual(len(bound_paper(*trees[:2])), len(net.mixings()))

    def test_likeness(self):
        net = great(12, 8)
        places = net.places()
        paper = list(zip(places, places[1:] + places[:1]))
        self.assertIsNotNone(find_match(net, renumber(net, paper)))


class Together(Case):
    def test_papers_of_edited_nets(self):
        net = Net(*ONE_PLACE)
        keeper, other = Keeper(net), net
        for edit in (("hang", "b", None), ("hang", "c", (0, 7)), ("tie", (0, 2), (0, 1)), ("pluck", "c", "a")):
            if slow_edit(other.arrows(), other.leaves(), edit)[0] == "net":
                keeper.apply(edit)
                other = edit_net(other, edit)
                self.assertEqual(shown(papers_for(keeper.net)), shown(papers_for(Net(other.arrows(), other.leaves()))))
        self.assertGreater(keeper.steps, 1)

    def test_moments_that_are_changed_later(self):
        net, moments = Net(*DOC), list(FIT)
        wanted = draw(net, moments, ["a", "b", "c"])
        moments.clear()
        self.assertEqual(draw(net, list(FIT), ["a", "b", "c"]), wanted)
        self.assertTrue(is_moments(net, FIT))
        self.assertTrue(pluck(net, ("b", "a")) == edit_net(net, ("pluck", "b", "a")))
