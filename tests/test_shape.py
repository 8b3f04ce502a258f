"""Names and the faults of two lists: points 8 to 12 and the heading levelgifts/shape.py."""

import copy
import random
import unittest

from levelgifts.faults import BadNet
from levelgifts.nets import Net
from levelgifts.shape import is_name, net_fault
from samples import CHERRY, DOC, SAMPLES, SHORT, caterpillar, greatest, random_nets, slow_fault, stacked

GOOD_NAMES = ["a", "z", "m5", "a0", "z9", "abcdefgh", "a2345678", "zzzzzzzz", "b1c2"]
BAD_STRINGS = [
    "", "abcdefghi", "a23456789", "x" * 4000, "1", "1a", "9abc", "A", "aB", "abC1", "Z9", "aZ",
    " a", "a ", " ", "a b", "\na", "a\n", "a\nb", "\n", "a_b", "a-b", "a#1", "#", "(a)", "a,b", "a;", "a.b",
    "a/", "a:", "`a", "{a", "a@", "a[", "@", "{",
]
OTHER_KINDS = [
    0, 1, -1, 10 ** 59, True, False, None, [], (), ["a"], ("a",), [["a"]], ("a", "b"), ["a", "b"], [("a",)], ([],),
]
BAD_PLACES = [-1, 10000, 10 ** 59, -(10 ** 59), True, False, None, "0", "", [0], (0,), [], ()]


class Names(unittest.TestCase):
    def test_names(self):
        for value in GOOD_NAMES:
            self.assertIs(is_name(value), True, value)

    def test_every_sign_alone_and_behind_a_letter(self):
        letters = "abcdefghijklmnopqrstuvwxyz"
        for sign in [chr(code) for code in range(32, 127)] + ["\n"]:
            self.assertIs(is_name(sign), sign in letters, repr(sign))
            self.assertIs(is_name("a" + sign), sign in letters + "0123456789", repr(sign))
            self.assertIs(is_name("abcdefg" + sign), sign in letters + "0123456789", repr(sign))
            self.assertIs(is_name("a" + sign + "a"), sign in letters + "0123456789", repr(sign))

    def test_each_length(self):
        for length in range(12):
            self.assertIs(is_name("b" * length), 1 <= length <= 8, length)

    def test_strings_that_are_no_names(self):
        for value in BAD_STRINGS:
            self.assertIs(is_name(value), False, repr(value))

    def test_values_of_other_kinds(self):
        for value in OTHER_KINDS:
            self.assertIs(is_name(value), False, repr(value))
            self.assertIs(is_name([value]), False, repr(value))
            self.assertIs(is_name((value,)), False, repr(value))

    def test_names_within_lists_and_tuples(self):
        for value in GOOD_NAMES:
            for other in ([value], (value,), [value, value], (value, 1), [[value]], ((value,),)):
                self.assertIs(is_name(other), False, repr(other))

    def test_by_name_and_again(self):
        self.assertIs(is_name(value="ab"), True)
        self.assertIs(is_name(value=["ab"]), False)
        self.assertIs(is_name("ab"), True)


class FaultCase(unittest.TestCase):
    def expect(self, fault, arrows, leaves):
        """The fault is told by the function and by the class, and the lists stay as they are."""
        before = copy.deepcopy((arrows, leaves))
        told = net_fault(arrows, leaves)
        self.assertEqual(told, fault, (arrows, leaves))
        self.assertEqual(repr(told), repr(fault))
        if fault is None:
            Net(arrows, leaves)
        else:
            with self.assertRaises(BadNet) as caught:
                Net(arrows, leaves)
            self.assertEqual((caught.exception.word, caught.exception.at), fault)
        self.assertEqual(repr((arrows, leaves)), repr(before))


class NoFault(FaultCase):
    def test_the_samples(self):
        for arrows, leaves in SAMPLES:
            self.expect(None, arrows, leaves)
            self.expect(None, arrows[::-1], leaves[::-1])

    def test_the_one_place_net(self):
        for place in (0, 1, 9999):
            self.expect(None, [], [(place, "abcdefgh")])

    def test_the_example(self):
        self.expect(None, [(0, 1), (0, 2)], [(1, "a"), (2, "b")])
        self.expect(("degree", 0), [(0, 1)], [(1, "a")])

    def test_least_and_greatest_places(self):
        self.expect(None, [(9999, 0), (9999, 5)], [(0, "a"), (5, "b")])
        self.expect(None, [(0, 9999), (0, 5)], [(9999, "a"), (5, "b")])

    def test_by_name_and_again(self):
        arrows, leaves = DOC
        self.assertIsNone(net_fault(arrows=arrows, leaves=leaves))
        self.assertEqual(net_fault(leaves=[], arrows=[]), ("none", 0))
        self.assertIsNone(net_fault(leaves=leaves, arrows=arrows))
        self.assertEqual(net_fault(leaves=[], arrows=[]), ("none", 0))


class Long(FaultCase):
    def test_46_arrows_and_12_leaves_are_not_too_many(self):
        arrows, leaves = greatest()
        self.assertEqual((len(arrows), len(leaves)), (46, 12))
        self.expect(None, arrows, leaves)

    def test_47_arrows(self):
        arrows, leaves = greatest()
        self.expect(("long", 0), arrows + [(8000, 8001)], leaves)
        self.expect(("long", 0), arrows + [arrows[0]], leaves)
        self.expect(("long", 0), [(9, 9)] * 47, [])
        self.expect(("long", 0), ["x"] * 400, [])

    def test_45_and_46_arrows_with_another_fault(self):
        self.expect(("double", 1), [(0, 1)] * 46, [(1, "a")])
        self.expect(("double", 1), [(0, 1)] * 45, [(1, "a")])

    def test_13_leaves(self):
        self.expect(("long", 1), *caterpillar(13))
        self.expect(("long", 1), [], [None] * 13)
        self.expect(None, *caterpillar(12))
        self.expect(None, *caterpillar(11))

    def test_both(self):
        arrows, leaves = caterpillar(30)
        self.expect(("long", 0), arrows, leaves)

    def test_ahead_of_all_others(self):
        self.expect(("long", 1), [None], [None] * 13)
        self.expect(("long", 0), [None] * 47, [None])


class Arrows(FaultCase):
    def test_other_kinds(self):
        for bad in [None, 0, True, "ab", "", [0, 2], [], (), (0,), (0, 2, 3), ((0, 2),), [(0, 2)], (0, [2]), ((0,), 2)]:
            self.expect(("arrow", 1), [(0, 1), bad], [(1, "a"), (2, "b")])
            self.expect(("arrow", 0), [bad, (0, 1)], [(1, "a"), (2, "b")])

    def test_ends_that_are_no_places(self):
        for bad in BAD_PLACES:
            self.expect(("arrow", 1), [(0, 1), (0, bad)], [(1, "a"), (2, "b")])
            self.expect(("arrow", 1), [(0, 1), (bad, 2)], [(1, "a"), (2, "b")])

    def test_true_is_not_one(self):
        self.expect(("arrow", 0), [(0, True), (0, 2)], [(1, "a"), (2, "b")])
        self.expect(("arrow", 1), [(1, 0), (True, 2)], [(0, "a"), (2, "b")])
        self.expect(("arrow", 0), [(False, 1), (0, 2)], [(1, "a"), (2, "b")])

    def test_the_first_one_is_told(self):
        self.expect(("arrow", 2), [(0, 1), (0, 2), None, (9, 9), [1]], [(1, "a"), (2, "b")])

    def test_ahead_of_later_words(self):
        self.expect(("arrow", 3), [(0, 0), (0, 0), (4, 5), [4, 5]], [None])
        self.expect(("arrow", 0), [(0, -1)], [])
        self.expect(("arrow", 0), [(0, 1, 2)], [(0, ""), (0, "")])


class Leaves(FaultCase):
    def test_other_kinds(self):
        bads = [None, 0, True, "ab", "", [2, "b"], [], (), (2,), (2, "b", "c"), ("b",), ((2, "b"),), ("b", 2), (2, 2)]
        for bad in bads + [(2, None), (2, True), (2, ["b"]), (2, ("b",)), (2, [])]:
            self.expect(("leaf", 1), [(0, 1), (0, 2)], [(1, "a"), bad])
            self.expect(("leaf", 0), [(0, 1), (0, 2)], [bad, (1, "a")])

    def test_places_that_are_none(self):
        for bad in BAD_PLACES:
            self.expect(("leaf", 1), [(0, 1), (0, 2)], [(1, "a"), (bad, "b")])

    def test_true_is_not_one(self):
        self.expect(("leaf", 0), [(0, 1), (0, 2)], [(True, "a"), (2, "b")])
        self.expect(("leaf", 0), [], [(False, "a")])

    def test_the_first_one_is_told(self):
        self.expect(("leaf", 1), [(0, 1), (0, 2)], [(1, "a"), None, [2, "b"]])

    def test_ahead_of_later_words(self):
        self.expect(("leaf", 2), [(0, 1), (0, 1)], [(1, "A"), (1, "A"), (2, 3)])


class LeafNames(FaultCase):
    def test_strings_that_are_no_names(self):
        for bad in BAD_STRINGS:
            self.expect(("name", 1), [(0, 1), (0, 2)], [(1, "a"), (2, bad)])
            self.expect(("name", 0), [], [(0, bad)])

    def test_the_first_one_is_told(self):
        self.expect(("name", 1), [(0, 1), (0, 2)], [(1, "a"), (2, "B"), (3, "")])

    def test_ahead_of_later_words(self):
        self.expect(("name", 2), [(0, 1), (0, 1)], [(1, "a"), (1, "a"), (1, "A")])


class Again(FaultCase):
    def test_a_place_again(self):
        self.expect(("again", 2), [(0, 1), (0, 2)], [(1, "a"), (2, "b"), (1, "c")])

    def test_a_name_again(self):
        self.expect(("again", 1), [(0, 1), (0, 2)], [(1, "a"), (2, "a")])

    def test_both_again(self):
        self.expect(("again", 1), [], [(1, "a"), (1, "a")])

    def test_the_first_later_item_is_told(self):
        self.expect(("again", 2), [(0, 1)], [(1, "a"), (2, "b"), (3, "b"), (1, "c"), (4, "a")])
        self.expect(("again", 2), [(0, 1)], [(1, "a"), (2, "b"), (2, "c"), (3, "a")])
        self.expect(("again", 3), [(0, 1)], [(1, "a"), (2, "b"), (3, "c"), (4, "a"), (3, "d")])

    def test_ahead_of_later_words(self):
        self.expect(("again", 1), [(0, 1), (0, 1)], [(1, "a"), (2, "a")])


class Double(FaultCase):
    def test_an_arrow_again(self):
        arrows, leaves = DOC
        self.expect(("double", 7), arrows + [arrows[0]], leaves)
        self.expect(("double", 1), arrows[:1] + arrows, leaves)

    def test_a_mixing_with_one_mother_twice(self):
        self.expect(("double", 1), [(0, 1), (0, 1), (1, 2)], [(2, "a")])

    def test_the_first_later_item_is_told(self):
        self.expect(("double", 3), [(0, 1), (2, 3), (4, 5), (2, 3), (0, 1)], [(1, "a")])

    def test_the_other_way_round_is_no_double(self):
        self.expect(("degree", 0), [(0, 1), (1, 0)], [(0, "a")])

    def test_ahead_of_later_words(self):
        self.expect(("double", 1), [(0, 1), (0, 1)], [])


class NoLeaves(FaultCase):
    def test_two_empty_lists(self):
        self.expect(("none", 0), [], [])

    def test_no_leaves(self):
        self.expect(("none", 0), DOC[0], [])

    def test_ahead_of_later_words(self):
        self.expect(("none", 0), [(3, 3)], [])
        self.expect(("none", 0), [(0, 1)], [])


class Degree(FaultCase):
    def test_each_pair_of_numbers(self):
        good = {(0, 0), (0, 2), (1, 2), (2, 1), (1, 0)}
        for into in range(5):
            for out in range(5):
                # The place 0 is the least one, and the others have whatever degrees they get.
                arrows = [(10 + k, 0) for k in range(into)] + [(0, 20 + k) for k in range(out)]
                fault = net_fault(arrows, [(0, "a")])
                self.assertEqual(fault == ("degree", 0), (into, out) not in good, (into, out))

    def test_alone(self):
        self.expect(("degree", 0), [(0, 1)], [(1, "a")])
        self.expect(("degree", 5), [(5, 6), (5, 7), (5, 8)], [(6, "a"), (7, "b"), (8, "c")])
        self.expect(("degree", 2), [(0, 1), (0, 2), (2, 3)], [(1, "a"), (3, "b")])
        self.expect(("degree", 3), [(0, 1), (0, 2), (1, 3), (2, 3), (1, 4), (2, 5)], [(3, "a"), (4, "b"), (5, "c")])

    def test_an_arrow_to_the_own_place(self):
        self.expect(("degree", 0), [(0, 0)], [(0, "a")])
        # One mother and two children, counted with the arrow to itself: no fault of this word.
        self.expect(("roots", 0), [(0, 0), (0, 1)], [(1, "a")])
        # Two mothers and one child.
        self.expect(("ring", 1), [(0, 1), (0, 2), (1, 1)], [(2, "a")])

    def test_the_least_place_is_told(self):
        self.expect(("degree", 4), [(9, 8), (4, 7), (30, 31), (30, 32)], [(8, "a"), (31, "b")])
        self.expect(("degree", 1), [(9, 1), (9, 8), (9, 7), (1, 3)], [(3, "a")])

    def test_ahead_of_later_words(self):
        self.expect(("degree", 8), [(0, 1), (0, 2), (5, 6), (5, 7), (8, 9)], [(1, "a"), (2, "b")])
        self.expect(("degree", 2), [(0, 1), (0, 3), (1, 2), (2, 1)], [(3, "a")])


# A ring 1 -> 3 -> 2 -> 1 without a root, with the leaf 9 hanging from 1.
RING = [(1, 3), (1, 9), (2, 3), (2, 1), (3, 2)]


class Roots(FaultCase):
    def test_two(self):
        self.expect(("roots", 4), [(0, 1), (0, 2), (4, 5), (4, 6)], [(1, "a"), (2, "b"), (5, "c"), (6, "d")])
        self.expect(("roots", 9), [], [(9, "a"), (3, "b")])
        self.expect(("roots", 8), [(8, 1), (8, 2)], [(1, "a"), (2, "b"), (5, "c")])

    def test_the_second_least_of_three(self):
        self.expect(("roots", 5), [], [(9, "a"), (3, "b"), (5, "c")])
        self.expect(("roots", 12), [(20, 1), (20, 2)], [(1, "a"), (2, "b"), (12, "c"), (10, "d")])

    def test_none(self):
        self.expect(("roots", 1), RING, [(9, "a")])
        moved = [(u + 100, v + 100) for u, v in RING if v != 9] + [(101, 9)]
        self.expect(("roots", 9), moved, [(9, "a")])

    def test_ahead_of_later_words(self):
        self.expect(("roots", 50), RING + [(40, 41), (40, 42), (50, 51), (50, 52)], [(9, "a")])
        self.expect(("roots", 6), [(0, 1), (0, 2), (6, 7), (6, 8)], [(0, "a")])
        self.expect(("roots", 1), RING, [(1, "a")])


class Ring(FaultCase):
    def test_beside_a_net(self):
        self.expect(("ring", 1), RING + [(0, 7), (0, 8)], [(9, "a"), (7, "b"), (8, "c")])

    def test_below_the_root(self):
        # 5 -> 6 -> 7 -> 5, and 5 is a mixing that the root is the other mother of.
        arrows = [(90, 5), (90, 2), (5, 6), (6, 7), (6, 3), (7, 5), (7, 4)]
        self.expect(("ring", 5), arrows, [(2, "a"), (3, "b"), (4, "c")])

    def test_what_hangs_below_a_ring_is_not_on_it(self):
        # The split 1 and the leaves 2 and 3 are below the ring 5, 6, 7.
        arrows = [(0, 5), (0, 8), (5, 6), (6, 7), (6, 1), (1, 2), (1, 3), (7, 5), (7, 4)]
        self.expect(("ring", 5), arrows, [(2, "a"), (3, "b"), (4, "c"), (8, "d")])

    def test_a_place_that_is_its_own_child(self):
        self.expect(("ring", 4), [(0, 4), (0, 2), (4, 4)], [(2, "a")])

    def test_the_least_place_of_several_rings(self):
        other = [(u + 30, v + 30) for u, v in RING]
        top = [(0, 7), (0, 8)]
        self.expect(("ring", 1), other + RING + top, [(9, "a"), (39, "d"), (7, "b"), (8, "c")])

    def test_ahead_of_later_words(self):
        self.expect(("ring", 1), RING + [(0, 7), (0, 8)], [(0, "a")])


class Label(FaultCase):
    def test_a_place_without_children_and_without_a_name(self):
        self.expect(("label", 2), [(0, 1), (0, 2)], [(1, "a")])

    def test_a_place_with_children_and_with_a_name(self):
        self.expect(("label", 0), [(0, 1), (0, 2)], [(1, "a"), (2, "b"), (0, "c")])
        arrows, leaves = SHORT
        self.expect(("label", 0), arrows, leaves + [(0, "m")])

    def test_the_least_place_of_either_sort(self):
        self.expect(("label", 3), [(7, 9), (7, 3)], [(9, "a"), (7, "b")])
        self.expect(("label", 1), [(1, 9), (1, 3)], [(9, "a"), (1, "b")])

    def test_a_leaf_that_is_not_in_the_net(self):
        self.expect(("roots", 5), [(0, 1), (0, 2)], [(1, "a"), (2, "b"), (5, "c")])

    def test_ahead_of_the_mixings(self):
        arrows, leaves = stacked(9)
        self.expect(("label", 0), arrows, leaves + [(0, "b")])


class Mixings(FaultCase):
    def test_the_bound(self):
        for many in range(2, 9):
            self.expect(None, *stacked(many))
        for many in range(9, 16):
            self.expect(("mixings", many), *stacked(many))

    def test_the_most_arrows(self):
        arrows, leaves = stacked(15)
        self.assertEqual(len(arrows), 45)


class Compared(FaultCase):
    def test_random_nets(self):
        for arrows, leaves in random_nets(300, seed=12):
            self.expect(None, arrows, leaves)

    def test_lists_that_are_changed_a_little(self):
        chance = random.Random(10)
        values = [None, True, 0, 1, 5, 9999, 10000, -1, "a", "b1", "A", "", [0, 1], (0, 1), (1, 0), (2, "a"), ()]
        words = set()
        for arrows, leaves in random_nets(3000, seed=11):
            arrows, leaves = list(arrows), list(leaves)
            for _ in range(chance.randrange(1, 4)):
                change_a_little(chance, chance.choice([arrows, leaves]), values)
            fault = slow_fault(arrows, leaves)
            words.add(fault and fault[0])
            self.expect(fault, arrows, leaves)
        self.assertGreater(len(words), 10)

    def test_random_arrows(self):
        chance = random.Random(13)
        words = set()
        for _ in range(4000):
            size = chance.randrange(2, 7)
            arrows = [(chance.randrange(size), chance.randrange(size)) for _ in range(chance.randrange(2, 8))]
            leaves = [(place, f"n{place}") for place in chance.sample(range(size), chance.randrange(1, size))]
            words.add(fault_word(arrows, leaves))
            self.expect(slow_fault(arrows, leaves), arrows, leaves)
        self.assertGreater(len(words), 4)


def fault_word(arrows, leaves):
    fault = slow_fault(arrows, leaves)
    return fault and fault[0]


def change_a_little(chance, items, values):
    """Takes out, doubles or replaces one item, or one part of it."""
    deed = chance.randrange(5)
    if not items or deed == 0:
        items.append(chance.choice(values))
        return
    at = chance.randrange(len(items))
    if deed == 1:
        del items[at]
    elif deed == 2:
        items.insert(chance.randrange(len(items) + 1), items[at])
    elif isinstance(items[at], tuple) and len(items[at]) == 2:
        one, two = items[at]
        other = chance.choice(items)
        swap = other[0] if isinstance(other, tuple) and other else chance.choice(values)
        items[at] = chance.choice([(swap, two), (one, chance.choice(values)), (two, one), [one, two], (one, swap)])


class Plain(unittest.TestCase):
    def test_what_is_returned_is_a_plain_pair(self):
        fault = net_fault([(0, 1)], [(1, "a")])
        self.assertIs(type(fault), tuple)
        self.assertEqual([type(item) for item in fault], [str, int])
        self.assertIsNone(net_fault(*CHERRY))
