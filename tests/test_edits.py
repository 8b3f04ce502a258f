"""Edits: points 78 and 79 and the heading levelgifts/edits.py."""

import random
from itertools import product

from checks import Case, shown
from levelgifts import faults
from levelgifts.edits import edit_all, edit_effect, edit_net
from levelgifts.faults import BadEdit, BadName, LevelError, NoArrow, NoLeaf, NoPair, TooMany
from levelgifts.nets import Net
from levelgifts.newick import read_newick, write_newick
from levelgifts.pluck import pluck
from samples import CHERRY, DOC, KNOT, ONE_PLACE, SAMPLES, SHORT, STACK, caterpillar, greatest, random_nets, stacked
from slow_edits import formed, slow_edit
from slow_rows import slow_least, slow_pairs

BIG = 10 ** 59
FORMLESS = [
    None, True, False, 0, "", "hang", "drop a", (), [], ("hang",), ("drop",), ("tie",), ("cut",), ("pluck",), ("undo",), ("a",),
    ("hang", "d"), ("hang", "d", (0, 1), None), ("hang", None, None), ("hang", ["d"], None), ("hang", "d", [0, 1]),
    ("hang", "d", (0,)), ("hang", "d", (0, 1, 2)), ("hang", "d", (0, True)), ("hang", "d", (False, 1)), ("hang", "d", ("0", "1")),
    ("hang", "d", (0, None)), ("hang", "d", False), ("hang", "d", ()), ("hang", 1, (0, 1)), ("hang", True, None),
    ["hang", "d", None], ["drop", "a"], [("drop", "a")], (("drop", "a"),), ("drop", "a", "b"), ("drop", None), ("drop", ("a",)),
    ("drop", 0), ("Drop", "a"), ("drop ", "a"), (None, "a"), (["drop"], "a"), (True, "a"), ("tie", (0, 1), None), ("tie", None, (0, 1)),
    ("tie", (0, 1)), ("tie", (0, 1), (0, 5), (1, 2)), ("tie", 0, 1, 0, 5), ("tie", (0, 1), [0, 5]), ("tie", [0, 1], (0, 5)),
    ("tie", (0, True), (0, 5)), ("tie", (0, 1), (False, 5)), ("cut", None), ("cut", (1, 3), None), ("cut", [1, 3]), ("cut", 1, 3),
    ("cut", (True, 3)), ("cut", (1, "3")), ("cut", (1,)), ("cut", (1, 3, 3)), ("cut", "13"), ("pluck", ("b", "a")), ("pluck", "b"),
    ("pluck", "b", "a", "c"), ("pluck", "b", None), ("pluck", True, "a"), ("pluck", ["b"], "a"), ("b", "a"), ("net", "a;"),
    ("", "a"), ("hang", "d", (0, (1,))), ("hang", "d", (0, [1])), tuple(["drop"] * 400),
]
FREE = [("drop", "q"), ("cut", (0, 9)), ("hang", "1", None), ("pluck", "a", "q"), ("tie", (0, 9), (9, 0))]


def words_of(net):
    """Names and arrows for edits of the net, some of them strange."""
    names = net.names() + ["q", "zz1", "1a", "", "abcdefghi", net.names()[0] + " "]
    arrows = net.arrows() + [(0, 0), (BIG, -BIG), (net.root, net.root)] + [(v, u) for u, v in net.arrows()[:1]]
    return names, arrows


def random_edit(chance, net):
    names, arrows = words_of(net)
    arrow = chance.choice(arrows if chance.random() < 0.2 else net.arrows() or arrows)
    other = chance.choice(arrows if chance.random() < 0.2 else net.arrows() or arrows)
    return chance.choice([
        ("hang", chance.choice(names), chance.choice([None, arrow])), ("hang", "qq", chance.choice([None, arrow])),
        ("drop", chance.choice(names)), ("drop", chance.choice(net.names())), ("tie", arrow, other), ("tie", arrow, arrow),
        ("cut", arrow), ("cut", arrow), ("pluck", chance.choice(names), chance.choice(names)), chance.choice(FORMLESS),
        ("pluck", *chance.choice(slow_pairs(net.arrows(), net.leaves()) or [("q", "q")])),
        ("cut", chance.choice([(u, v) for u, v in net.arrows() if v in net.mixings()] or [arrow])),
    ])


class Edits(Case):
    def follow(self, arrows, leaves, edit):
        """The edit does what the slow reading tells, and the net behind it, or None."""
        net = Net(arrows, leaves)
        word, told = slow_edit(net.arrows(), net.leaves(), edit)
        if word != "net":
            self.refuses(getattr(faults, word), told, edit_net, net, edit)
            self.refuses(getattr(faults, word), told, edit_effect, net, edit)
            self.refuses(getattr(faults, word), told, edit_all, net, [edit])
            return None
        self.expect(Net(*told), edit_net, net, edit)
        self.assertEqual((net.arrows(), net.leaves()), (sorted(arrows), sorted(leaves)))
        return Net(*told)

    def test_hang(self):
        net = Net(*DOC)
        self.expect("(((a,(b)#1),(#1,c)),d);", lambda edit: write_newick(edit_net(net, edit)), ("hang", "d", None))
        behind = self.call(edit_net, net, ("hang", "d", None))
        self.assertEqual((behind.root, behind.children(7), behind.place_of("d")), (7, [0, 8], 8))
        behind = self.call(edit_net, edit=("hang", "d", (5, 3)), net=net)
        self.assertEqual((behind.children(7), behind.mothers(7), behind.mothers(3)), ([3, 8], [5], [1, 7]))
        behind = self.call(edit_net, Net(*ONE_PLACE), ("hang", "b", None))
        self.assertEqual((behind.arrows(), behind.leaves()), ([(0, 1), (0, 7)], [(1, "b"), (7, "a")]))
        self.refuses(NoArrow, {"bad": (7, 7)}, edit_net, Net(*ONE_PLACE), ("hang", "b", (7, 7)))

    def test_numbers_with_gaps(self):
        # The places 1 and 3 are the least free ones here.
        net = Net([(0, 2), (0, 4)], [(2, "a"), (4, "b")])
        behind = self.call(edit_net, net, ("hang", "c", (0, 2)))
        self.assertEqual((behind.arrows(), behind.leaves()), ([(0, 1), (0, 4), (1, 2), (1, 3)], [(2, "a"), (3, "c"), (4, "b")]))
        behind = self.call(edit_net, net, ("tie", (0, 2), (0, 4)))
        self.assertEqual(behind.arrows(), [(0, 1), (0, 3), (1, 2), (1, 3), (3, 4)])

    def test_drop(self):
        self.expect(Net([], [(2, "b")]), edit_net, Net(*CHERRY), ("drop", "a"))
        self.expect(Net([(0, 5), (0, 3), (5, 3), (5, 6), (3, 4)], [(4, "b"), (6, "c")]), edit_net, Net(*DOC), ("drop", "a"))
        self.refuses(BadEdit, {"word": "last"}, edit_net, Net(*ONE_PLACE), ("drop", "a"))
        self.refuses(BadEdit, {"word": "mixing"}, edit_net, Net(*DOC), ("drop", "b"))
        # The other child of the mother of y1 is a mixing below the root too.
        self.refuses(BadEdit, {"word": "double"}, edit_net, Net(*SHORT), ("drop", "y1"))
        self.refuses(NoLeaf, {"bad": "z"}, edit_net, Net(*ONE_PLACE), ("drop", "z"))

    def test_tie(self):
        net = Net(*CHERRY)
        behind = self.call(edit_net, net, ("tie", (4, 9), (4, 2)))
        self.assertEqual(behind.arrows(), [(0, 1), (0, 9), (1, 2), (4, 0), (4, 1)])
        self.refuses(BadEdit, {"word": "same"}, edit_net, net, ("tie", (4, 9), (4, 9)))
        self.refuses(NoArrow, {"bad": (9, 4)}, edit_net, net, ("tie", (9, 4), (2, 4)))
        self.refuses(NoArrow, {"bad": (2, 4)}, edit_net, net, ("tie", (4, 9), (2, 4)))
        self.refuses(NoArrow, {"bad": (7, 7)}, edit_net, Net(*ONE_PLACE), ("tie", (7, 7), (7, 7)))

    def test_rings(self):
        tree = Net(*caterpillar(4))
        self.refuses(BadEdit, {"word": "ring"}, edit_net, tree, ("tie", (2, 4), (0, 2)))
        self.refuses(BadEdit, {"word": "ring"}, edit_net, tree, ("tie", (4, 5), (0, 2)))
        self.expect([(0, 1), (0, 7), (2, 3), (2, 8), (4, 5), (4, 6), (7, 2), (7, 8), (8, 4)],
                    lambda net, edit: edit_net(net, edit).arrows(), tree, ("tie", (0, 2), (2, 4)))
        found = {True: 0, False: 0}
        for arrows, leaves in SAMPLES + random_nets(60, seed=251):
            if sum(len([u for u, w in arrows if w == v]) == 2 for v in {v for u, v in arrows}) < 8:
                for giver, taker in list(product(arrows, repeat=2))[:200]:
                    word, told = slow_edit(arrows, leaves, ("tie", giver, taker))
                    if giver != taker:
                        found[word == "net"] += 1
                        if word == "net":
                            self.assertTrue(edit_net(Net(arrows, leaves), ("tie", giver, taker)) == Net(*told))
                        else:
                            self.refuses(BadEdit, {"word": "ring"}, edit_net, Net(arrows, leaves), ("tie", giver, taker))
        self.assertGreater(min(found.values()), 100)

    def test_cut(self):
        net = Net(*DOC)
        self.expect(Net([(0, 2), (0, 5), (5, 4), (5, 6)], [(2, "a"), (4, "b"), (6, "c")]), edit_net, net, ("cut", (1, 3)))
        self.expect(Net([(0, 1), (0, 6), (1, 2), (1, 4)], [(2, "a"), (4, "b"), (6, "c")]), edit_net, net, ("cut", (5, 3)))
        self.refuses(BadEdit, {"word": "end"}, edit_net, net, ("cut", (0, 1)))
        self.refuses(BadEdit, {"word": "end"}, edit_net, net, ("cut", (3, 4)))
        self.refuses(BadEdit, {"word": "mother"}, edit_net, Net(*STACK), ("cut", (30, 4)))
        # The root is cut: its other child becomes the root.
        self.expect(Net([(3, 5), (3, 9999)], [(9999, "x"), (5, "y1")]), edit_net, Net(*SHORT), ("cut", (8, 0)))
        self.expect(Net([(8, 5), (8, 9999)], [(9999, "x"), (5, "y1")]), edit_net, Net(*SHORT), ("cut", (3, 0)))

    def test_arrows_that_would_stand_twice(self):
        # The arrow that is added stands already.
        net = Net(*STACK)
        self.refuses(BadEdit, {"word": "double"}, edit_net, net, ("cut", (50, 30)))
        # The two that are added are the same.
        net = Net([(0, 1), (0, 9), (1, 2), (1, 3), (2, 3), (2, 4), (3, 4), (4, 5)], [(5, "b"), (9, "a")])
        self.refuses(BadEdit, {"word": "double"}, edit_net, net, ("cut", (2, 3)))
        found = 0
        for arrows, leaves in random_nets(400, seed=252):
            for arrow in arrows:
                word, told = slow_edit(arrows, leaves, ("cut", arrow))
                if told == {"word": "double"}:
                    self.follow(arrows, leaves, ("cut", arrow))
                    found += 1
        self.assertGreater(found, 20)

    def test_pluck(self):
        net = Net(*DOC)
        self.expect(pluck(net, ("b", "a")), edit_net, net, ("pluck", "b", "a"))
        self.refuses(NoPair, {"bad": ("a", "b")}, edit_net, net, ("pluck", "a", "b"))
        self.refuses(NoPair, {"bad": ("a", "a")}, edit_net, net, ("pluck", "a", "a"))
        self.refuses(NoLeaf, {"bad": "q"}, edit_net, net, ("pluck", "q", "z"))
        self.refuses(NoLeaf, {"bad": ""}, edit_net, net, ("pluck", "a", ""))

    def test_every_edit_of_small_nets(self):
        counts = {}
        for sample in (ONE_PLACE, CHERRY, DOC, SHORT, STACK, KNOT, stacked(2)):
            names, arrows = words_of(Net(*sample))
            edits = [("hang", name, at) for name in names for at in arrows + [None]] + [("drop", name) for name in names]
            edits += [("tie", one, other) for one in arrows for other in arrows] + [("cut", arrow) for arrow in arrows]
            edits += [("pluck", one, other) for one in names for other in names]
            for edit in edits:
                word, told = slow_edit(*sample, edit)
                key = (edit[0], word, told.get("word") if word != "net" else None)
                counts[key] = counts.get(key, 0) + 1
                if counts[key] < 40:
                    self.follow(*sample, edit)
        for word in ("form", "taken", "last", "mixing", "same", "ring", "end", "mother", "double"):
            self.assertTrue(word == "form" or any(key[2] == word for key in counts), word)
        self.assertTrue(all((word, "net", None) in counts for word in ("hang", "drop", "tie", "cut", "pluck")))

    def test_random_edits(self):
        chance, done = random.Random(253), 0
        for arrows, leaves in SAMPLES + random_nets(150, seed=253):
            for _ in range(6):
                edit = random_edit(chance, Net(arrows, leaves))
                behind = self.follow(arrows, leaves, edit)
                if behind is not None:
                    arrows, leaves = behind.arrows(), behind.leaves()
                    done += 1
        self.assertGreater(done, 200)

    def test_edits_and_their_ways_back(self):
        for arrows, leaves in SAMPLES[:7] + random_nets(100, seed=254):
            net = Net(arrows, leaves)
            for at in [None] + net.arrows()[:4]:
                if len(leaves) < 12:
                    behind = edit_net(net, ("hang", "back", at))
                    self.assertTrue(edit_net(behind, ("drop", "back")) == net)
            for giver, taker in list(product(arrows, repeat=2))[:60]:
                if len(net.mixings()) < 8 and slow_edit(arrows, leaves, ("tie", giver, taker))[0] == "net":
                    behind = edit_net(net, ("tie", giver, taker))
                    [arrow] = [(u, v) for u, v in behind.arrows() if u not in net.places() and v not in net.places()]
                    self.assertTrue(edit_net(behind, ("cut", arrow)) == net)


class Errors(Case):
    def test_forms(self):
        for edit in FORMLESS:
            self.assertFalse(formed(edit))
            for sample in (DOC, ONE_PLACE, greatest()):
                self.refuses(BadEdit, {"word": "form"}, edit_net, Net(*sample), edit)
                self.refuses(BadEdit, {"word": "form"}, edit_effect, Net(*sample), edit)
                self.refuses(BadEdit, {"word": "form"}, edit_all, Net(*sample), [edit, ("drop", "q")])

    def test_integers_of_any_size(self):
        for arrow in ((BIG, 1), (1, -BIG), (10000, 10001), (-1, 0), (0, 0)):
            for edit in (("hang", "d", arrow), ("tie", arrow, (0, 1)), ("tie", (0, 1), arrow), ("cut", arrow)):
                self.refuses(NoArrow, {"bad": arrow}, edit_net, Net(*DOC), edit)

    def test_truth_is_no_place(self):
        net = Net([(0, 1), (0, 2)], [(1, "a"), (2, "b")])
        self.call(edit_net, net, ("hang", "c", (0, 1)))
        for arrow in ((False, 1), (0, True), (False, True)):
            for edit in (("hang", "c", arrow), ("tie", arrow, (0, 2)), ("tie", (0, 2), arrow), ("cut", arrow)):
                self.refuses(BadEdit, {"word": "form"}, edit_net, net, edit)

    def test_two_that_are_due_for_a_hang(self):
        full = Net(*caterpillar(12))
        for at in (None, (0, 1), (1, 0)):
            self.refuses(BadName, {"bad": "A"}, edit_net, full, ("hang", "A", at))
        self.refuses(NoArrow, {"bad": (1, 0)}, edit_net, full, ("hang", "n0", (1, 0)))
        self.refuses(NoArrow, {"bad": (1, 0)}, edit_net, full, ("hang", "new", (1, 0)))
        for at in (None, (0, 1)):
            self.refuses(BadEdit, {"word": "taken"}, edit_net, full, ("hang", "n0", at))
            self.refuses(TooMany, {"word": "leaves", "many": 13}, edit_net, full, ("hang", "new", at))
        eleven = Net(*caterpillar(11))
        self.assertEqual(len(edit_net(eleven, ("hang", "new", (0, 1))).leaves()), 12)

    def test_two_that_are_due_for_a_drop(self):
        self.refuses(NoLeaf, {"bad": "1"}, edit_net, Net(*ONE_PLACE), ("drop", "1"))
        # Without the mixing above it the leaf a stands where an arrow would stand twice, too.
        self.refuses(BadEdit, {"word": "mixing"}, edit_net, Net(*stacked(2)), ("drop", "a"))

    def test_two_that_are_due_for_a_tie(self):
        net = Net(*stacked(8))
        one, low = net.arrows()[0], (15, 16)
        self.refuses(NoArrow, {"bad": (99, 1)}, edit_net, net, ("tie", (99, 1), (98, 1)))
        self.refuses(NoArrow, {"bad": (98, 1)}, edit_net, net, ("tie", one, (98, 1)))
        self.refuses(BadEdit, {"word": "same"}, edit_net, net, ("tie", low, low))
        self.refuses(BadEdit, {"word": "ring"}, edit_net, net, ("tie", low, one))
        self.refuses(TooMany, {"word": "mixings", "many": 9}, edit_net, net, ("tie", one, low))
        seven = Net(*stacked(7))
        self.assertEqual(len(edit_net(seven, ("tie", seven.arrows()[0], seven.arrows()[-1])).mixings()), 8)

    def test_two_that_are_due_for_a_cut(self):
        net = Net(*STACK)
        self.refuses(NoArrow, {"bad": (4, 30)}, edit_net, net, ("cut", (4, 30)))
        # The mother 30 is a mixing, and the child 17 is none.
        self.refuses(BadEdit, {"word": "end"}, edit_net, net, ("cut", (4, 17)))
        # The mother is a mixing, and the arrows that are added would be the same.
        net = Net([(0, 1), (0, 9), (1, 2), (1, 3), (2, 3), (2, 4), (3, 4), (4, 5)], [(5, "b"), (9, "a")])
        self.refuses(BadEdit, {"word": "mother"}, edit_net, net, ("cut", (3, 4)))

    def test_two_that_are_due_for_a_pluck(self):
        self.refuses(NoLeaf, {"bad": "q"}, edit_net, Net(*ONE_PLACE), ("pluck", "q", "q"))
        self.refuses(NoLeaf, {"bad": "q"}, edit_net, Net(*ONE_PLACE), ("pluck", "a", "q"))
        self.refuses(NoPair, {"bad": ("a", "a")}, edit_net, Net(*ONE_PLACE), ("pluck", "a", "a"))


class Rows(Case):
    def test_all(self):
        net = Net(*DOC)
        edits = [("hang", "d", None), ("pluck", "b", "a"), ("tie", (0, 2), (5, 6)), ("drop", "d")]
        wanted = net
        for many in range(5):
            self.expect(wanted, edit_all, net, edits[:many])
            wanted = edit_net(wanted, edits[many]) if many < 4 else wanted
        self.expect(net, edit_all, edits=[], net=net)

    def test_the_first_at_fault_decides(self):
        net = Net(*DOC)
        for bad, error in ((("drop", "q"), NoLeaf), (("cut", (9, 9)), NoArrow), (None, BadEdit), (("hang", "1", None), BadName)):
            for behind in ([], [("cut", (0, 9))], [None], [("hang", "A", None), 7, []]):
                for before in ([], [("hang", "d", None)], [("hang", "d", None), ("pluck", "b", "a")]):
                    with self.assertRaises(error):
                        edit_all(net, before + [bad] + behind)
        self.assertEqual((net.arrows(), net.leaves()), DOC)

    def test_each_edit_is_looked_at_in_the_net_before_it(self):
        net = Net(*CHERRY)
        self.assertEqual(edit_all(net, [("drop", "a"), ("hang", "a", None)]).names(), ["a", "b"])
        self.refuses(NoLeaf, {"bad": "a"}, edit_all, net, [("drop", "a"), ("drop", "a")])
        self.refuses(BadEdit, {"word": "taken"}, edit_all, net, [("hang", "c", None), ("hang", "c", None)])

    def test_random_lists(self):
        chance, long = random.Random(255), 0
        for arrows, leaves in random_nets(100, seed=255):
            net, edits = Net(arrows, leaves), []
            behind = net
            for _ in range(chance.randrange(6)):
                edit = random_edit(chance, behind)
                edits.append(edit)
                word, told = slow_edit(behind.arrows(), behind.leaves(), edit)
                if word != "net":
                    edits += chance.sample(FREE, 2)
                    self.refuses(getattr(faults, word), told, edit_all, net, edits)
                    break
                behind = Net(*told)
            else:
                self.expect(behind, edit_all, net, edits)
                long += len(edits) > 1
        self.assertGreater(long, 5)


class Effects(Case):
    def test_small(self):
        stuck = read_newick("(((a)#1,(b)#2),(#1,#2));")
        self.expect("gained", edit_effect, stuck, ("cut", (1, 2)))
        self.expect("same", edit_effect, stuck, ("hang", "c", None))
        self.expect("same", edit_effect, edit=("drop", "a"), net=Net(*DOC))
        self.expect("same", edit_effect, Net(*ONE_PLACE), ("hang", "c", None))
        found = self.call(edit_all, Net(*CHERRY), [("tie", (4, 9), (4, 2))])
        words = {edit_effect(found, ("tie", one, other)) for one, other in product(found.arrows(), repeat=2)
                 if slow_edit(found.arrows(), found.leaves(), ("tie", one, other))[0] == "net"}
        self.assertEqual(words, {"lost", "same"})

    def test_random_edits(self):
        chance, words = random.Random(256), {"lost": 0, "gained": 0, "same": 0}
        for arrows, leaves in SAMPLES + random_nets(300, seed=256):
            net = Net(arrows, leaves)
            for _ in range(4):
                edit = random_edit(chance, net)
                word, told = slow_edit(arrows, leaves, edit)
                if word == "net":
                    before, behind = not slow_least(arrows, leaves)[1][0], not slow_least(*told)[1][0]
                    wanted = "same" if before == behind else "lost" if before else "gained"
                    self.expect(wanted, edit_effect, net, edit)
                    words[wanted] += 1
                else:
                    self.refuses(getattr(faults, word), told, edit_effect, net, edit)
        self.assertGreater(min(words.values()), 10)

    def test_equal_calls_behind_others(self):
        net = Net(*DOC)
        before = shown([edit_net(net, ("hang", "d", None)), edit_all(net, [("drop", "a"), ("cut", (5, 3))])])
        for edit in FREE:
            with self.assertRaises(LevelError):
                edit_net(net, edit)
        after = shown([edit_net(net, ("hang", "d", None)), edit_all(net, [("drop", "a"), ("cut", (5, 3))])])
        self.assertEqual(before, after)
        self.assertEqual((net.arrows(), net.leaves()), DOC)
