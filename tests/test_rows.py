"""Rows: points 26 and 27 and their functions of the heading levelgifts/pluck.py."""

import inspect
import random

from checks import Case, shown
from levelgifts.faults import BadName, BadRow
from levelgifts.nets import Net
from levelgifts.newick import read_newick
from levelgifts.pairs import pairs
from levelgifts.pluck import build, can_be_plucked, is_row, least_row, pluck, pluck_all, put_back, rests
from samples import CHERRY, DOC, KNOT, ONE_PLACE, SAMPLES, STACK, caterpillar, greatest, random_nets, stacked
from slow_rows import random_row, slow_follow, slow_least

FULL = [("b", "a"), ("b", "c"), ("a", "c")]
STRANGE = [("", ""), ("z", "a"), ("a", "z"), ("a", "a"), ("A", "\n"), ("x" * 4000, "a"), ("1", "2")]


def walked(net, row):
    """The nets that the generator yields, and the index that it raises or None."""
    found = []
    try:
        for left in rests(net, row):
            found.append(left)
    except BadRow as error:
        return found, error.at
    return found, None


class Walks(Case):
    def test_each_rest_in_order(self):
        net = read_newick("((a,(b)#1),(#1,c));")
        found, at = walked(net, FULL)
        one = Net([(0, 2), (0, 5), (5, 4), (5, 6)], [(2, "a"), (4, "b"), (6, "c")])
        self.assertEqual(found, [one, Net([(0, 2), (0, 6)], [(2, "a"), (6, "c")]), Net([], [(6, "c")])])
        self.assertIsNone(at)

    def test_it_is_a_generator(self):
        self.assertTrue(inspect.isgenerator(rests(Net(*DOC), FULL)))
        self.assertEqual([len(left.places()) for left in rests(row=FULL, net=Net(*DOC))], [5, 3, 1])

    def test_the_empty_row(self):
        for sample in SAMPLES:
            self.assertEqual(walked(Net(*sample), []), ([], None))

    def test_nothing_is_looked_at_ahead(self):
        self.assertTrue(inspect.isgenerator(rests(None, None)))
        looked = []

        class Row(list):
            def __iter__(self):
                for pair in list.__iter__(self):
                    looked.append(pair)
                    yield pair

        walk = rests(Net(*DOC), Row(FULL + [("no", "leaf")]))
        self.assertEqual(looked, [])
        self.assertEqual(len(next(walk).places()), 5)
        self.assertEqual(looked, FULL[:1])

    def test_the_nets_before_the_fault(self):
        net = Net(*DOC)
        for bad in STRANGE:
            for at in range(4):
                walk = rests(net, FULL[:at] + [bad] + FULL[at:])
                for pair in FULL[:at]:
                    self.assertIsInstance(next(walk), Net)
                with self.assertRaises(BadRow) as caught:
                    next(walk)
                self.assertEqual(vars(caught.exception), {"at": at})
                self.assertEqual(list(walk), [])

    def test_a_walk_that_is_left_earlier(self):
        for at in range(1, 4):
            seen = []
            for left in rests(Net(*DOC), FULL[:at] + [("no", "leaf")]):
                seen.append(left)
                if len(seen) == at:
                    break
            self.assertEqual(len(seen), at)
            walk = rests(Net(*DOC), FULL[:at] + [("no", "leaf")])
            next(walk)
            walk.close()

    def test_two_walks_at_once(self):
        net, row = Net(*DOC), list(FULL)
        met = [(shown(one), shown(other)) for one, other in zip(rests(net, row), rests(net, row))]
        self.assertEqual(len(met), 3)
        self.assertTrue(all(one == other for one, other in met))
        self.assertEqual((shown(net), row), (shown(Net(*DOC)), FULL))


class Rest(Case):
    def test_rows_that_can_be_followed(self):
        net = Net(*DOC)
        self.expect(Net([], [(6, "c")]), pluck_all, net, FULL)
        self.expect(Net([(0, 2), (0, 6)], [(2, "a"), (6, "c")]), pluck_all, net, FULL[:2])
        self.expect(pluck(net, ("b", "a")), pluck_all, net, FULL[:1])

    def test_the_empty_row(self):
        for sample in SAMPLES:
            self.expect(Net(*sample), pluck_all, Net(*sample), [])

    def test_the_index(self):
        net = Net(*DOC)
        for bad in STRANGE:
            for at in range(4):
                self.refuses(BadRow, {"at": at}, pluck_all, net, FULL[:at] + [bad] + FULL[at:])
                self.refuses(BadRow, {"at": at}, pluck_all, net, FULL[:at] + [bad, bad])
        self.refuses(BadRow, {"at": 0}, pluck_all, net, [("a", "b")] + FULL)
        self.refuses(BadRow, {"at": 1}, pluck_all, net, [("b", "a"), ("b", "a")])
        self.refuses(BadRow, {"at": 2}, pluck_all, net, FULL[:2] + [("b", "c")])

    def test_a_row_that_is_too_long(self):
        self.refuses(BadRow, {"at": 3}, pluck_all, Net(*DOC), FULL + FULL)
        self.refuses(BadRow, {"at": 0}, pluck_all, Net(*ONE_PLACE), [("a", "a")] * 400)
        self.refuses(BadRow, {"at": 1}, pluck_all, Net(*CHERRY), [("a", "b")] * 400)
        self.refuses(BadRow, {"at": 0}, pluck_all, Net(*KNOT), [("a", "b")])

    def test_random_nets(self):
        chance = random.Random(36)
        for arrows, leaves in random_nets(300, seed=36):
            net, names = Net(arrows, leaves), [name for place, name in leaves]
            row = random_row(chance, arrows, leaves)
            for _ in range(chance.randrange(3)):
                row.insert(chance.randrange(len(row) + 1), (chance.choice(names), chance.choice(names)))
            found, at = slow_follow(arrows, leaves, row)
            told = walked(net, row)
            self.assertEqual([(left.arrows(), left.leaves()) for left in told[0]], found)
            self.assertEqual(told[1], at)
            if at is None:
                self.expect(Net(*(found or [(arrows, leaves)])[-1]), pluck_all, net, row)
            else:
                self.refuses(BadRow, {"at": at}, pluck_all, net, row)

    def test_by_name(self):
        self.expect(Net([], [(6, "c")]), pluck_all, row=FULL, net=Net(*DOC))


class Building(Case):
    def test_small(self):
        self.expect(Net([], [(0, "a")]), build, [], last="a")
        self.expect(Net([(1, 0), (1, 2)], [(0, "a"), (2, "b")]), build, [("b", "a")], last="a")
        self.expect(Net([(1, 0), (1, 2)], [(0, "c"), (2, "a")]), build, last="c", row=[("a", "c")])

    def test_from_the_last_pair_to_the_first(self):
        # Behind ("a", "c"): 0 is c, 1 the root and 2 is a. Then 3 is a split and 4 is b, then 5 and the mixing 6.
        net = self.call(build, FULL, last="c")
        arrows = [(1, 3), (1, 5), (3, 0), (3, 6), (5, 2), (5, 6), (6, 4)]
        self.assertEqual((net.arrows(), net.leaves()), (arrows, [(0, "c"), (2, "a"), (4, "b")]))

    def test_the_row_plucks_what_was_built(self):
        for arrows, leaves in SAMPLES + random_nets(200, seed=37):
            row, rest = slow_least(arrows, leaves)
            if len(rest[1]) == 1 and not rest[0]:
                net = self.call(build, row, last=rest[1][0][1])
                self.expect(Net([], [(0, rest[1][0][1])]), pluck_all, net, row)

    def test_last_is_no_name(self):
        for bad in ("", "A", "1", "a b", "\n", "z" * 9, "x" * 4000, "a.b"):
            for row in ([], FULL, [("", "")], [(bad, bad)]):
                self.refuses(BadName, {"bad": bad}, build, row, last=bad)

    def test_the_first_pair_that_is_met(self):
        for bad in STRANGE + [("Q", "c"), ("c", "c"), ("a", "b"), ("n", "n")]:
            self.refuses(BadRow, {"at": 0}, build, [bad], last="c")
            self.refuses(BadRow, {"at": 2}, build, [bad, bad, bad], last="c")
            self.refuses(BadRow, {"at": 1}, build, [bad, bad, ("w", "c")], last="c")
        # The pairs behind the one at fault were met earlier; those before it are not looked at.
        self.refuses(BadRow, {"at": 1}, build, [("", ""), ("x", "b"), ("a", "c")], last="c")
        self.refuses(BadRow, {"at": 0}, build, [("b", "b"), ("b", "a"), ("a", "c")], last="c")
        # The leaf that stays is there only behind the pair before it.
        self.refuses(BadRow, {"at": 1}, build, [("a", "c"), ("b", "a")], last="c")
        self.assertEqual(build([("b", "a"), ("a", "c")], last="c").names(), ["a", "b", "c"])

    def test_bounds(self):
        many = [(f"n{k}", "c") for k in range(11)]
        self.assertEqual(len(self.call(build, many, last="c").names()), 12)
        self.refuses(BadRow, {"at": 0}, build, [("one", "c")] + many, last="c")
        self.refuses(BadRow, {"at": 2}, build, FULL + many, last="c")
        again = [("a", "c")] * 9
        self.assertEqual(len(self.call(build, again, last="c").mixings()), 8)
        self.refuses(BadRow, {"at": 0}, build, [("a", "c")] * 10, last="c")
        self.refuses(BadRow, {"at": 390}, build, [("a", "c")] * 400, last="c")

    def test_last_goes_ahead(self):
        self.refuses(BadName, {"bad": "C"}, build, [("c", "c")], last="C")

    def test_last_is_passed_by_name_alone(self):
        with self.assertRaises(TypeError):
            build([], "a")


class Least(Case):
    def test_the_example(self):
        row, rest = self.call(least_row, read_newick("((a,(b)#1),(#1,c));"))
        self.assertEqual(row, FULL)
        self.assertEqual(rest, Net([], [(6, "c")]))

    def test_nothing_to_pluck(self):
        for sample in (ONE_PLACE, KNOT, stacked(2), stacked(8)):
            self.expect(([], Net(*sample)), least_row, Net(*sample))

    def test_a_rest_that_is_stuck(self):
        net = read_newick("((((d,a))#1,(b)#2),(#1,#2));")
        row, rest = self.call(least_row, net)
        self.assertEqual((row, rest.names(), len(rest.inner())), ([("a", "d")], ["b", "d"], 5))

    def test_random_nets(self):
        for arrows, leaves in SAMPLES + random_nets(300, seed=38):
            row, rest = self.call(least_row, Net(arrows, leaves))
            self.assertEqual((row, (rest.arrows(), rest.leaves())), slow_least(arrows, leaves))
            self.assertIs(can_be_plucked(Net(arrows, leaves)), not rest.arrows())

    def test_whether_it_can_be_plucked_down(self):
        for sample in (ONE_PLACE, CHERRY, DOC, caterpillar(12)):
            self.expect(True, can_be_plucked, Net(*sample))
        for sample in (KNOT, STACK, stacked(2), stacked(8), greatest()):
            self.expect(False, can_be_plucked, Net(*sample))
        self.expect(True, can_be_plucked, net=Net(*DOC))
        # Some pairs can be plucked, and yet it does not come down to one leaf.
        self.expect(False, can_be_plucked, read_newick("((((d,a))#1,(b)#2),(#1,#2));"))

    def test_rows_that_can_be_followed_can_be_continued(self):
        chance = random.Random(39)
        for arrows, leaves in random_nets(200, seed=39):
            row = random_row(chance, arrows, leaves)
            rest = pluck_all(Net(arrows, leaves), row)
            self.assertIs(can_be_plucked(rest), can_be_plucked(Net(arrows, leaves)))

    def test_by_name(self):
        self.expect((FULL, Net([], [(6, "c")])), least_row, net=Net(*DOC))


class Judge(Case):
    def test_full_rows(self):
        self.expect(True, is_row, Net(*DOC), FULL)
        self.expect(True, is_row, Net(*DOC), [("b", "c"), ("a", "b"), ("c", "b")])
        self.expect(True, is_row, paper=[("a", "b")], net=Net(*CHERRY))
        self.expect(True, is_row, Net(*CHERRY), [("b", "a")])

    def test_the_empty_row(self):
        for sample in SAMPLES:
            self.expect(sample == ONE_PLACE, is_row, Net(*sample), [])

    def test_one_leaf_and_several_places(self):
        net = read_newick("((((a)#2)#1,#2),#1);")
        for paper in ([], [("a", "a")], [("a", "b")]):
            self.expect(False, is_row, net, paper)

    def test_rows_that_are_not_full(self):
        net = Net(*DOC)
        for paper in (FULL[:1], FULL[:2], FULL + [("a", "c")], FULL + FULL, FULL[::-1], FULL[1:], [FULL[1], FULL[0]]):
            self.expect(False, is_row, net, paper)

    def test_names_that_are_no_leaves(self):
        for bad in STRANGE:
            for at in range(4):
                self.expect(False, is_row, Net(*DOC), FULL[:at] + [bad] + FULL[at:])
                self.expect(False, is_row, Net(*DOC), FULL[:at] + [bad] + FULL[at + 1:])

    def test_papers_of_other_forms(self):
        net = Net(*CHERRY)
        items = [None, True, False, 0, 1, -7, "", "ab", "a", (), ("a",), ("a", "b", "a"), ["a", "b"], ("a", 1),
                 (1, "a"), ("a", None), (None, None), (True, False), ("a", ("b",)), (("a", "b"),), [("a", "b")],
                 ("a", ["b"]), (["a"], "b"), ([], []), [], [[]], ((),)]
        for item in items:
            self.expect(False, is_row, net, [item])
            self.expect(item == [("a", "b")], is_row, net, item)
            self.expect(False, is_row, net, [("a", "b"), item])
            self.expect(False, is_row, net, [item, ("a", "b")])
        self.expect(False, is_row, net, (("a", "b"),))
        self.expect(False, is_row, Net(*ONE_PLACE), ())
        self.expect(False, is_row, Net(*ONE_PLACE), None)
        self.expect(False, is_row, Net(*ONE_PLACE), "")
        self.expect(False, is_row, Net(*ONE_PLACE), False)
        deep = []
        for _ in range(59):
            deep = [deep]
        self.expect(False, is_row, net, deep)
        self.expect(False, is_row, net, [("a", "b")] * 1000)

    def test_random_nets(self):
        chance = random.Random(40)
        held = 0
        for arrows, leaves in random_nets(300, seed=40):
            row = random_row(chance, arrows, leaves)
            if row and chance.random() < 0.3:
                at = chance.randrange(len(row))
                row[at] = row[at][::-1]
            found, at = slow_follow(arrows, leaves, row)
            left = found[-1] if found else (arrows, leaves)
            wanted = at is None and not left[0]
            held += wanted
            self.expect(wanted, is_row, Net(arrows, leaves), row)
        self.assertGreater(held, 40)

    def test_equal_calls_behind_others(self):
        net = Net(*DOC)
        before = [shown(least_row(net)), is_row(net, FULL), pairs(net)]
        put_back(net, ("a", "c"))
        build(FULL, last="c")
        pluck_all(net, FULL)
        self.assertEqual([shown(least_row(net)), is_row(net, FULL), pairs(net)], before)
