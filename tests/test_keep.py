"""Keepers: points 80 and 81 and the heading levelgifts/keep.py."""

import random
import unittest

from checks import Case, shown
from levelgifts import faults
from levelgifts.edits import edit_all, edit_effect
from levelgifts.faults import BadEdit, BadName, LevelError, NoArrow, NoLeaf, NoPair, TooMany
from levelgifts.keep import Keeper
from levelgifts.nets import Net
from levelgifts.stuck import verdict
from samples import CHERRY, DOC, KNOT, ONE_PLACE, SAMPLES, caterpillar, greatest, random_nets
from slow_edits import slow_edit
from test_edits import FORMLESS, FREE, random_edit

HANG, TIE, PLUCK = ("hang", "d", None), ("tie", (0, 1), (5, 6)), ("pluck", "b", "a")


def state(keeper):
    """All that a keeper tells of itself."""
    return shown([keeper.net, keeper.steps, list(keeper), keeper.answer()])


class Told(Case):
    def holds(self, keeper, net, edits, steps):
        self.assertTrue(keeper.net == net)
        self.assertIs(type(keeper.net), Net)
        self.assertEqual(shown(list(keeper)), shown(edits))
        self.assertEqual(shown(keeper.steps), shown(steps))
        self.assertEqual(shown(keeper.answer()), shown(verdict(Net(net.arrows(), net.leaves()))))

    def falls(self, error, told, function, *passed):
        """The call raises the class with just these attributes."""
        with self.assertRaises(error) as caught:
            function(*passed)
        self.assertIs(type(caught.exception), error)
        self.assertEqual(shown(sorted(vars(caught.exception).items())), shown(sorted(told.items())))


class Steps(Told):
    def test_at_the_beginning(self):
        for sample in SAMPLES:
            keeper = Keeper(Net(*sample))
            self.holds(keeper, Net(*sample), [], 0)
            self.assertIs(keeper.undo(), False)
            self.holds(keeper, Net(*sample), [], 0)
        self.holds(Keeper(net=Net(*DOC)), Net(*DOC), [], 0)

    def test_single_edits(self):
        net = Net(*DOC)
        keeper = Keeper(net)
        self.assertIsNone(keeper.apply(HANG))
        self.holds(keeper, edit_all(net, [HANG]), [HANG], 1)
        self.assertIsNone(keeper.apply(edit=PLUCK))
        self.holds(keeper, edit_all(net, [HANG, PLUCK]), [HANG, PLUCK], 2)
        self.assertIs(keeper.undo(), True)
        self.holds(keeper, edit_all(net, [HANG]), [HANG], 1)
        keeper.apply(("drop", "d"))
        self.holds(keeper, net, [HANG, ("drop", "d")], 2)
        self.assertEqual([keeper.undo(), keeper.undo(), keeper.undo(), keeper.undo()], [True, True, False, False])
        self.holds(keeper, net, [], 0)
        keeper.apply(TIE)
        self.holds(keeper, edit_all(net, [TIE]), [TIE], 1)

    def test_lists_are_one_step(self):
        net, edits = Net(*DOC), [HANG, PLUCK, ("drop", "d")]
        keeper = Keeper(net)
        self.assertEqual(shown(keeper.apply_all(edits)), "3")
        self.holds(keeper, edit_all(net, edits), edits, 1)
        self.assertEqual(keeper.apply_all(edits=[HANG]), 1)
        self.holds(keeper, edit_all(net, edits + [HANG]), edits + [HANG], 2)
        self.assertIs(keeper.undo(), True)
        self.holds(keeper, edit_all(net, edits), edits, 1)
        self.assertIs(keeper.undo(), True)
        self.holds(keeper, net, [], 0)

    def test_the_empty_list(self):
        keeper = Keeper(Net(*DOC))
        self.assertEqual(shown(keeper.apply_all([])), "0")
        self.holds(keeper, Net(*DOC), [], 0)
        self.assertIs(keeper.undo(), False)
        keeper.apply(HANG)
        self.assertEqual(keeper.apply_all([]), 0)
        self.holds(keeper, edit_all(Net(*DOC), [HANG]), [HANG], 1)
        self.assertIs(keeper.undo(), True)
        self.holds(keeper, Net(*DOC), [], 0)

    def test_edits_that_give_the_same_net_are_steps(self):
        keeper = Keeper(Net(*CHERRY))
        keeper.apply_all([("hang", "c", None), ("drop", "c")])
        self.holds(keeper, Net(*CHERRY), [("hang", "c", None), ("drop", "c")], 1)
        self.assertIs(keeper.undo(), True)
        self.holds(keeper, Net(*CHERRY), [], 0)

    def test_errors_do_nothing(self):
        net = Net(*DOC)
        keeper = Keeper(net)
        keeper.apply(HANG)
        for before in ([], [PLUCK], [PLUCK, ("drop", "a")]):
            for bad, error, told in (
                (("drop", "q"), NoLeaf, {"bad": "q"}), (("cut", (9, 9)), NoArrow, {"bad": (9, 9)}), (None, BadEdit, {"word": "form"}),
                (("pluck", "d", "d"), NoPair, {"bad": ("d", "d")}), (("hang", "A", None), BadName, {"bad": "A"}),
                (("hang", "d", None), BadEdit, {"word": "taken"}),
            ):
                for behind in ([], [None], [("hang", "1", None)], [("cut", (0, 9)), 7]):
                    self.falls(error, told, keeper.apply_all, before + [bad] + behind)
                self.falls(error, told, keeper.apply, bad)
                self.falls(error, told, keeper.effect, bad)
                self.holds(keeper, edit_all(net, [HANG]), [HANG], 1)
        for edit in FORMLESS:
            self.falls(BadEdit, {"word": "form"}, keeper.apply, edit)
            self.falls(BadEdit, {"word": "form"}, keeper.apply_all, [PLUCK, edit])
        self.holds(keeper, edit_all(net, [HANG]), [HANG], 1)
        self.falls(TooMany, {"word": "leaves", "many": 13}, Keeper(Net(*greatest())).apply, ("hang", "new", None))

    def test_each_edit_is_looked_at_in_the_net_before_it(self):
        keeper = Keeper(Net(*CHERRY))
        self.assertEqual(keeper.apply_all([("drop", "a"), ("hang", "a", None), ("drop", "a")]), 3)
        self.assertEqual(keeper.net.names(), ["b"])

    def test_effects(self):
        keeper = Keeper(Net(*KNOT))
        self.assertEqual(keeper.effect(("cut", (8, 1))), "gained")
        self.assertEqual(keeper.effect(edit=("hang", "q", None)), "same")
        self.holds(keeper, Net(*KNOT), [], 0)
        keeper.apply(("cut", (8, 1)))
        behind = keeper.net
        lost = {keeper.effect(("tie", one, other)) for one in behind.arrows() for other in behind.arrows()
                if slow_edit(behind.arrows(), behind.leaves(), ("tie", one, other))[0] == "net"}
        self.assertIn("lost", lost)
        self.holds(keeper, edit_all(Net(*KNOT), [("cut", (8, 1))]), [("cut", (8, 1))], 1)

    def test_many_random_edits(self):
        chance, counts = random.Random(261), {"done": 0, "refused": 0, "undone": 0}
        for sample in SAMPLES + random_nets(60, seed=261):
            keeper, past, edits = Keeper(Net(*sample)), [Net(*sample)], [[]]
            for _ in range(15):
                passed = [random_edit(chance, past[-1]) for _ in range(chance.choice([1, 1, 2, 3]))]
                way = chance.choice(["apply", "apply", "apply_all", "undo", "effect"])
                if way == "undo":
                    self.assertIs(keeper.undo(), len(past) > 1)
                    counts["undone"] += len(past) > 1
                    past, edits = past[:-1] or past, edits[:-1] or edits
                else:
                    passed = passed if way == "apply_all" else passed[:1]
                    word, told = self.told_of(past[-1], passed)
                    given = passed if way == "apply_all" else passed[0]
                    if word != "net":
                        self.falls(getattr(faults, word), told, getattr(keeper, way), given)
                        counts["refused"] += 1
                    elif way == "effect":
                        self.assertEqual(keeper.effect(given), edit_effect(past[-1], given))
                    else:
                        self.assertEqual(getattr(keeper, way)(given), len(passed) if way == "apply_all" else None)
                        past, edits = past + [Net(*told)], edits + [edits[-1] + passed]
                        counts["done"] += 1
                self.holds(keeper, past[-1], edits[-1], len(past) - 1)
            while len(past) > 1:
                past.pop(), edits.pop()
                self.assertIs(keeper.undo(), True)
                self.holds(keeper, past[-1], edits[-1], len(past) - 1)
            self.assertIs(keeper.undo(), False)
            self.assertEqual(shown(keeper.net), shown(Net(*sample)))
        self.assertGreater(min(counts.values()), 40)

    def told_of(self, net, edits):
        for edit in edits:
            word, told = slow_edit(net.arrows(), net.leaves(), edit)
            if word != "net":
                break
            net = Net(*told)
        return word, told


class Kept(Told):
    def test_passed_lists_are_not_kept(self):
        edits = [HANG, PLUCK]
        keeper = Keeper(Net(*DOC))
        keeper.apply_all(edits)
        edits.append(("drop", "d"))
        edits[0] = None
        self.assertEqual(list(keeper), [HANG, PLUCK])
        edits.clear()
        self.holds(keeper, edit_all(Net(*DOC), [HANG, PLUCK]), [HANG, PLUCK], 1)

    def test_nothing_passed_is_changed(self):
        net, edits = Net(*DOC), [HANG, PLUCK]
        keeper = Keeper(net)
        keeper.apply_all(edits)
        self.assertEqual(edits, [HANG, PLUCK])
        keeper.apply(("drop", "d")), keeper.undo(), keeper.undo()
        self.assertEqual(shown(net), shown(Net(*DOC)))

    def test_what_is_told_is_new(self):
        keeper = Keeper(Net(*DOC))
        keeper.apply(HANG)
        before = state(keeper)
        list(keeper).clear()
        keeper.answer()[1].clear()
        keeper.answer()[2].clear()
        self.assertEqual(state(keeper), before)
        self.assertIsNot(keeper.answer()[1], keeper.answer()[1])

    def test_equal_calls(self):
        for sample in SAMPLES:
            keeper, other = Keeper(Net(*sample)), Keeper(Net(*sample))
            self.assertEqual(state(keeper), state(other))
            self.call(keeper.answer)
            for each in (keeper, other):
                each.apply_all([])
                for edit in FREE:
                    with self.assertRaises(LevelError):
                        each.apply(edit)
            self.assertEqual(state(keeper), state(other))

    def test_keepers_are_apart(self):
        net = Net(*DOC)
        one, other = Keeper(net), Keeper(net)
        one.apply(HANG)
        self.holds(other, net, [], 0)
        other.apply(PLUCK)
        self.holds(one, edit_all(net, [HANG]), [HANG], 1)
        self.assertIs(one.undo(), True)
        self.holds(other, edit_all(net, [PLUCK]), [PLUCK], 1)

    def test_iterations_go_on_beside_one_another(self):
        keeper = Keeper(Net(*DOC))
        keeper.apply_all([HANG, PLUCK, ("drop", "d")])
        self.assertEqual(len([(x, y) for x in keeper for y in keeper]), 9)
        one, other = iter(keeper), iter(keeper)
        self.assertEqual([next(one), next(one), next(other), next(one), next(other)], [HANG, PLUCK, HANG, ("drop", "d"), PLUCK])


class Blocks(Told):
    def test_a_block_that_ends_well(self):
        net = Net(*DOC)
        keeper = Keeper(net)
        keeper.apply(HANG)
        with keeper as held:
            self.assertIs(held, keeper)
            held.apply(PLUCK)
            held.apply_all([("drop", "d")])
        edits = [HANG, PLUCK, ("drop", "d")]
        self.holds(keeper, edit_all(net, edits), edits, 3)
        with keeper:
            self.assertIs(keeper.undo(), True)
        self.holds(keeper, edit_all(net, edits[:2]), edits[:2], 2)
        with keeper:
            pass
        self.holds(keeper, edit_all(net, edits[:2]), edits[:2], 2)

    def left_by(self, keeper, error, work):
        """The block that does the work is left by the error, which goes on; the keeper is as it was."""
        before = state(keeper)
        with self.assertRaises(error.__class__) as caught:
            with keeper as held:
                work(held)
                self.assertNotEqual(state(held), before)
                raise error
        self.assertIs(caught.exception, error)
        self.assertEqual(state(keeper), before)

    def test_exceptions_of_all_kinds(self):
        def steps(held):
            held.apply(HANG)
            held.apply_all([PLUCK, ("drop", "c")])

        def taken_back(held):
            while held.undo():
                pass

        def both(held):
            held.undo(), held.undo(), held.apply(PLUCK)

        for error in (BadEdit("form"), TooMany("leaves", 13), ValueError("x"), KeyError("x"), StopIteration(), KeyboardInterrupt(),
                      SystemExit(3), GeneratorExit(), ZeroDivisionError(), AssertionError("x")):
            keeper = Keeper(Net(*DOC))
            self.left_by(keeper, error, steps)
            self.holds(keeper, Net(*DOC), [], 0)
            keeper.apply(("hang", "q", (0, 1)))
            keeper.apply_all([("hang", "r", None), ("drop", "q")])
            for work in (steps, taken_back, both):
                self.left_by(keeper, error, work)
            # The steps can be taken back again.
            self.assertEqual([keeper.undo(), keeper.undo(), keeper.undo()], [True, True, False])
            self.holds(keeper, Net(*DOC), [], 0)

    def test_an_error_of_the_keeper_itself(self):
        keeper = Keeper(Net(*DOC))
        keeper.apply(HANG)
        before = state(keeper)
        with self.assertRaises(NoLeaf) as caught:
            with keeper:
                keeper.apply(PLUCK)
                keeper.apply(("drop", "q"))
        self.assertEqual(caught.exception.bad, "q")
        self.assertEqual(state(keeper), before)

    def test_an_error_that_is_caught_within(self):
        keeper = Keeper(Net(*DOC))
        with keeper:
            keeper.apply(HANG)
            try:
                keeper.apply(HANG)
            except BadEdit:
                keeper.apply(PLUCK)
        self.holds(keeper, edit_all(Net(*DOC), [HANG, PLUCK]), [HANG, PLUCK], 2)

    def test_a_block_behind_another_one(self):
        keeper = Keeper(Net(*DOC))
        with keeper:
            keeper.apply(HANG)
        self.left_by(keeper, RuntimeError(), lambda held: held.undo())
        self.left_by(keeper, RuntimeError(), lambda held: held.apply(PLUCK))
        with keeper:
            keeper.apply(PLUCK)
        self.holds(keeper, edit_all(Net(*DOC), [HANG, PLUCK]), [HANG, PLUCK], 2)

    def test_leaving_by_return_and_break_is_no_exception(self):
        keeper = Keeper(Net(*DOC))

        def leave():
            with keeper:
                keeper.apply(HANG)
                return 3

        self.assertEqual(leave(), 3)
        for _ in range(2):
            with keeper:
                keeper.apply(PLUCK)
                break
        self.holds(keeper, edit_all(Net(*DOC), [HANG, PLUCK]), [HANG, PLUCK], 2)

    def test_two_keepers_in_one_statement(self):
        one, other = Keeper(Net(*DOC)), Keeper(Net(*ONE_PLACE))
        with self.assertRaises(KeyError):
            with one, other:
                one.apply(HANG)
                other.apply(("hang", "q", None))
                raise KeyError
        self.holds(one, Net(*DOC), [], 0)
        self.holds(other, Net(*ONE_PLACE), [], 0)


class Great(Told):
    def test_the_greatest_nets(self):
        for sample in (greatest(), caterpillar(12)):
            keeper = Keeper(Net(*sample))
            edits = [("pluck", "n10", "n11"), ("hang", "q", None), ("drop", "q"), ("pluck", "n9", "n11")]
            for edit in edits:
                keeper.apply(edit)
            self.assertEqual(keeper.steps, 4)
            self.holds(keeper, edit_all(Net(*sample), edits), edits, 4)


if __name__ == "__main__":
    unittest.main()
