"""The error classes: point 6 and the heading levelgifts/faults.py."""

import unittest

from levelgifts import faults
from levelgifts.faults import LevelError
from levelgifts.nets import Net
from levelgifts.newick import read_newick
from samples import DOC

# Each class with the values that it is created with and the attributes that then have them.
CLASSES = [
    ("BadNet", ("degree", 3), ("word", "at")),
    ("BadText", ("end", 0), ("word", "at")),
    ("BadTree", ("mixings",), ("word",)),
    ("BadName", ("1a",), ("bad",)),
    ("BadValue", ((1, "x", None),), ("bad",)),
    ("NoLeaf", ("z",), ("bad",)),
    ("NoPlace", (-4,), ("bad",)),
    ("NoArrow", ((3, 10 ** 59),), ("bad",)),
    ("NoPair", (("a", "b"),), ("bad",)),
    ("BadRow", (2,), ("at",)),
    ("BadMoments", ("back", (0, 1)), ("word", "at")),
    ("BadPaper", ("numbers",), ("word",)),
    ("Unlike", ("c",), ("bad",)),
    ("NoRow", ([0, 1, 2],), ("knot",)),
    ("BadEdit", ("form",), ("word",)),
    ("TooMany", ("leaves", 13), ("word", "many")),
]


class Classes(unittest.TestCase):
    def test_there_are_sixteen_and_the_base(self):
        self.assertEqual(len(CLASSES), 16)
        found = [name for name, value in vars(faults).items() if isinstance(value, type)]
        self.assertEqual(found, ["LevelError"] + [name for name, values, attributes in CLASSES])

    def test_the_base_stands_under_value_error(self):
        self.assertEqual(LevelError.__bases__, (ValueError,))

    def test_each_class_stands_directly_under_the_base(self):
        for name, values, attributes in CLASSES:
            self.assertEqual(getattr(faults, name).__bases__, (LevelError,), name)

    def test_attributes_are_set_in_the_told_order(self):
        for name, values, attributes in CLASSES:
            error = getattr(faults, name)(*values)
            self.assertEqual(tuple(getattr(error, word) for word in attributes), values, name)
            self.assertEqual(sorted(vars(error)), sorted(attributes), name)

    def test_each_can_be_raised_and_caught_as_the_base(self):
        for name, values, attributes in CLASSES:
            with self.assertRaises(LevelError) as caught:
                raise getattr(faults, name)(*values)
            self.assertIs(caught.exception.__class__, getattr(faults, name))
            self.assertIsInstance(caught.exception, ValueError)

    def test_objects_of_one_class_are_apart(self):
        one, two = faults.TooMany("leaves", 13), faults.TooMany("mixings", 9)
        self.assertEqual((one.word, one.many, two.word, two.many), ("leaves", 13, "mixings", 9))

    def test_moments_may_have_no_place_at_fault(self):
        error = faults.BadMoments("form", None)
        self.assertEqual((error.word, error.at), ("form", None))


class KeptLists(unittest.TestCase):
    def test_a_passed_list_is_not_kept_at_any_depth(self):
        for kind in (faults.BadName, faults.BadValue):
            inner = [1, ["x"]]
            passed = [inner, (2, inner), True, None, "s"]
            error = kind(passed)
            inner[1].append("later")
            inner.append("later")
            passed.append("later")
            self.assertEqual(error.bad, [[1, ["x"]], (2, [1, ["x"]]), True, None, "s"])
            self.assertIsNot(error.bad[0], error.bad[1][1])

    def test_kinds_of_values_are_kept(self):
        error = faults.BadValue((1, [True, (False, [])], (0,)))
        self.assertEqual(repr(error.bad), "(1, [True, (False, [])], (0,))")

    def test_lists_within_tuples_are_not_kept(self):
        inside = [2]
        error = faults.BadValue((1, inside))
        inside.append(3)
        self.assertEqual(error.bad, (1, [2]))

    def test_a_deep_value_is_kept_whole(self):
        deep = "x"
        for k in range(80):
            deep = [deep] if k % 2 else (deep,)
        self.assertEqual(faults.BadValue(deep).bad, deep)

    def test_the_knot_is_a_new_list(self):
        knot = [4, 5]
        error = faults.NoRow(knot)
        knot.append(6)
        self.assertEqual(error.knot, [4, 5])


class Raised(unittest.TestCase):
    def test_a_call_that_raises_changes_nothing(self):
        net = Net(*DOC)
        for call, kind in (
            (lambda: net.mothers(7), faults.NoPlace),
            (lambda: net.place_of("d"), faults.NoLeaf),
            (lambda: read_newick("(a"), faults.BadText),
            (lambda: Net([], []), faults.BadNet),
        ):
            with self.assertRaises(kind) as one:
                call()
            with self.assertRaises(kind) as two:
                call()
            self.assertEqual(vars(one.exception), vars(two.exception))
        self.assertTrue(net == Net(*DOC))
