"""Matches and new numbers: points 15 and 16 and the functions of the heading levelgifts/nets.py."""

import copy
import random
import unittest

from levelgifts.faults import BadPaper
from levelgifts.nets import Net, chain_matches, invert_match, is_match, renumber
from samples import CHERRY, DOC, KNOT, ONE_PLACE, SAMPLES, SHORT, STACK, random_nets

OTHER_KINDS = [None, True, False, 0, 7, "", "ab", (), [], [None], [0], ["ab"], [[]], [()], [((),)], {}]


def moved(net, numbers):
    """The net with other numbers, made without the package's own function."""
    arrows = [(numbers[u], numbers[v]) for u, v in net.arrows()]
    return Net(arrows, [(numbers[place], name) for place, name in net.leaves()])


def shuffled(net, chance):
    """The net with random other numbers, and the match with it."""
    places = net.places()
    numbers = dict(zip(places, chance.sample(range(chance.choice([len(places), 60, 10000])), len(places))))
    return moved(net, numbers), sorted(numbers.items())


class Judge(unittest.TestCase):
    def setUp(self):
        self.first = Net(*DOC)
        self.second = moved(self.first, {0: 9, 1: 8, 2: 7, 3: 6, 4: 5, 5: 4, 6: 3})
        self.match = [(0, 9), (1, 8), (2, 7), (3, 6), (4, 5), (5, 4), (6, 3)]

    def expect(self, held, paper, first=None, second=None):
        before = repr(paper)
        told = is_match(first or self.first, second or self.second, paper)
        self.assertIs(told, held, paper)
        self.assertEqual(repr(paper), before)

    def test_good(self):
        self.expect(True, self.match)
        self.expect(True, [(0, 7), ], Net([], [(0, "a")]), Net([], [(7, "a")]))
        for sample in SAMPLES:
            net = Net(*sample)
            self.expect(True, [(place, place) for place in net.places()], net, net)

    def test_random_nets(self):
        chance = random.Random(5)
        for sample in random_nets(150, seed=4):
            net = Net(*sample)
            other, match = shuffled(net, chance)
            self.expect(True, match, net, other)
            self.expect(True, invert_match(match), other, net)

    def test_another_order(self):
        self.expect(False, self.match[::-1])
        for k in range(6):
            swapped = list(self.match)
            swapped[k], swapped[k + 1] = swapped[k + 1], swapped[k]
            self.expect(False, swapped)

    def test_a_pair_twice(self):
        for k in range(7):
            self.expect(False, sorted(self.match + [self.match[k]]))
            self.expect(False, self.match + [self.match[k]])

    def test_a_pair_missing(self):
        for k in range(7):
            self.expect(False, self.match[:k] + self.match[k + 1:])
        self.expect(False, [])

    def test_places_that_are_none(self):
        self.expect(False, self.match + [(7, 2)])
        self.expect(False, [(0, 9), (1, 8), (2, 7), (3, 6), (4, 5), (5, 4), (6, 2)])
        self.expect(False, [(0, 9), (1, 8), (2, 7), (3, 6), (4, 5), (5, 4), (7, 3)])
        self.expect(False, [(-1, 9)] + self.match)
        self.expect(False, self.match + [(10 ** 59, -(10 ** 59))])

    def test_a_second_place_twice(self):
        self.expect(False, [(0, 9), (1, 8), (2, 7), (3, 6), (4, 5), (5, 4), (6, 4)])
        self.expect(False, [(0, 9), (1, 8), (2, 8), (3, 6), (4, 5), (5, 4), (6, 3)])

    def test_a_first_place_with_two_seconds(self):
        cherry = Net(*CHERRY)
        self.expect(True, [(2, 2), (4, 4), (9, 9)], cherry, cherry)
        self.expect(False, [(2, 2), (4, 4), (4, 9), (9, 9)], cherry, cherry)
        self.expect(False, [(2, 2), (4, 4), (4, 9)], cherry, cherry)

    def test_other_kinds_of_values(self):
        for value in OTHER_KINDS:
            self.expect(False, value)
            for k in range(7):
                self.expect(False, self.match[:k] + [value] + self.match[k + 1:])
        self.expect(False, tuple(self.match))
        self.expect(False, [list(pair) for pair in self.match])
        self.expect(False, dict(self.match))
        self.expect(False, [self.match])
        self.expect(False, [pair + (0,) for pair in self.match])
        self.expect(False, [pair[:1] for pair in self.match])
        self.expect(False, [(one, str(two)) for one, two in self.match])
        self.expect(False, [(one, [two]) for one, two in self.match])
        self.expect(False, [(one, None) for one, two in self.match])

    def test_true_and_false_are_no_places(self):
        net = Net([(0, 1), (0, 2)], [(1, "a"), (2, "b")])
        self.expect(True, [(0, 0), (1, 1), (2, 2)], net, net)
        for paper in ([(False, 0), (1, 1), (2, 2)], [(0, False), (1, 1), (2, 2)], [(0, 0), (True, 1), (2, 2)],
                      [(0, 0), (1, True), (2, 2)]):
            self.expect(False, paper, net, net)

    def test_names_exchanged(self):
        net = Net(*CHERRY)
        other = Net(CHERRY[0], [(9, "b"), (2, "a")])
        self.expect(False, [(2, 2), (4, 4), (9, 9)], net, other)
        self.expect(True, [(2, 9), (4, 4), (9, 2)], net, other)
        self.expect(False, [(2, 2), (4, 4), (9, 9)], net, Net(CHERRY[0], [(9, "a"), (2, "c")]))

    def test_arrows_that_are_others(self):
        # a and b are exchanged with their places: each leaf has its name, and the arrows differ.
        one = Net([(0, 1), (0, 2), (1, 3), (1, 4)], [(2, "a"), (3, "b"), (4, "c")])
        two = Net([(0, 1), (0, 3), (1, 2), (1, 4)], [(2, "a"), (3, "b"), (4, "c")])
        self.expect(False, [(0, 0), (1, 1), (2, 2), (3, 3), (4, 4)], one, two)
        self.expect(False, [(0, 1), (1, 0), (2, 2), (3, 3), (4, 4)], one, one)
        knot = Net(*KNOT)
        same = [(place, place) for place in knot.places()]
        self.expect(True, same, knot, knot)
        self.expect(True, [(1, 1), (2, 2), (5, 5), (6, 6), (7, 8), (8, 7), (9, 9)], knot, knot)
        self.expect(False, [(1, 2), (2, 1), (5, 5), (6, 6), (7, 7), (8, 8), (9, 9)], knot, knot)
        self.expect(False, [(1, 2), (2, 1), (5, 6), (6, 5), (7, 7), (8, 8), (9, 9)], knot, knot)

    def test_more_arrows_in_the_second_net(self):
        one = Net([(0, 1), (0, 2)], [(1, "a"), (2, "b")])
        self.expect(False, [(0, 0), (1, 1), (2, 2)], one, Net(*DOC))
        self.expect(False, [(place, place) for place in range(7)], Net(*DOC), one)

    def test_nets_of_the_same_size(self):
        nets = [Net(*sample) for sample in random_nets(60, seed=9)]
        for one in nets:
            for two in nets:
                if len(one.places()) == len(two.places()) and one.names() != two.names():
                    self.expect(False, list(zip(one.places(), two.places())), one, two)

    def test_by_name_and_again(self):
        for _ in range(2):
            self.assertIs(is_match(paper=self.match, second=self.second, first=self.first), True)
            self.assertIs(is_match(paper=self.match, second=self.first, first=self.second), False)


class InvertAndChain(unittest.TestCase):
    def test_invert(self):
        self.assertEqual(invert_match([(0, 9), (1, 3), (2, 5)]), [(3, 1), (5, 2), (9, 0)])
        self.assertEqual(invert_match(match=[(4, 4)]), [(4, 4)])

    def test_chain(self):
        one = [(0, 9), (1, 3), (2, 5)]
        other = [(3, 70), (5, 1), (9, 40)]
        self.assertEqual(chain_matches(one, other), [(0, 40), (1, 70), (2, 1)])
        self.assertEqual(chain_matches(other=other, one=one), [(0, 40), (1, 70), (2, 1)])

    def test_with_random_nets(self):
        chance = random.Random(15)
        for sample in SAMPLES + random_nets(80, seed=16):
            first = Net(*sample)
            second, one = shuffled(first, chance)
            third, other = shuffled(second, chance)
            self.assertIs(is_match(second, first, invert_match(one)), True)
            self.assertIs(is_match(first, third, chain_matches(one, other)), True)
            self.assertEqual(invert_match(invert_match(one)), one)
            same = [(place, place) for place in first.places()]
            self.assertEqual(chain_matches(one, invert_match(one)), same)

    def test_new_lists_and_nothing_changed(self):
        one, other = [(0, 9), (1, 3)], [(3, 7), (9, 4)]
        inverted, chained = invert_match(one), chain_matches(one, other)
        inverted.append("x")
        chained.append("x")
        self.assertEqual((one, other), ([(0, 9), (1, 3)], [(3, 7), (9, 4)]))
        self.assertEqual((invert_match(one), chain_matches(one, other)), ([(3, 1), (9, 0)], [(0, 4), (1, 7)]))
        same = [(1, 1), (2, 2)]
        self.assertIsNot(invert_match(same), same)
        self.assertIsNot(chain_matches(same, same), same)


class Renumber(unittest.TestCase):
    def refuse(self, net, paper):
        before, lists = repr(paper), (net.arrows(), net.leaves())
        with self.assertRaises(BadPaper) as caught:
            renumber(net, paper)
        self.assertEqual(caught.exception.word, "numbers")
        self.assertEqual((repr(paper), net.arrows(), net.leaves()), (before, *lists))

    def test_good_papers_in_any_order(self):
        net = Net(*SHORT)
        wanted = Net([(1, 2), (1, 30), (2, 30), (2, 9999), (30, 0)], [(0, "x"), (9999, "y1")])
        pairs = [(8, 1), (3, 2), (0, 30), (5, 9999), (9999, 0)]
        chance = random.Random(2)
        for _ in range(20):
            chance.shuffle(pairs)
            kept = list(pairs)
            self.assertTrue(renumber(net, pairs) == wanted)
            self.assertEqual(pairs, kept)
        self.assertTrue(net == Net(*SHORT))

    def test_numbers_that_are_used_again(self):
        net = Net(*CHERRY)
        self.assertTrue(renumber(net, [(2, 4), (4, 9), (9, 2)]) == Net([(9, 2), (9, 4)], [(2, "a"), (4, "b")]))
        self.assertTrue(renumber(net, [(9, 4), (4, 9), (2, 2)]) == Net([(9, 4), (9, 2)], [(4, "a"), (2, "b")]))
        self.assertTrue(renumber(net, [(2, 2), (4, 4), (9, 9)]) == net)

    def test_the_one_place_net(self):
        self.assertTrue(renumber(Net(*ONE_PLACE), [(7, 0)]) == Net([], [(0, "a")]))

    def test_the_names_stay(self):
        chance = random.Random(6)
        for sample in random_nets(60, seed=8):
            net = Net(*sample)
            other, match = shuffled(net, chance)
            self.assertTrue(renumber(net, match) == other)
            self.assertTrue(renumber(other, invert_match(match)[::-1]) == net)
            for place, number in match:
                self.assertEqual(other.name_of(number), net.name_of(place))

    def test_bounds_of_the_numbers(self):
        net = Net([], [(3, "a")])
        for number in (0, 1, 9998, 9999):
            self.assertTrue(renumber(net, [(3, number)]) == Net([], [(number, "a")]))
        for number in (-1, 10000, 10 ** 59, -(10 ** 59)):
            self.refuse(net, [(3, number)])

    def test_other_kinds(self):
        net = Net([(0, 1), (0, 2)], [(1, "a"), (2, "b")])
        good = [(0, 5), (1, 6), (2, 7)]
        self.assertTrue(renumber(net, good) == Net([(5, 6), (5, 7)], [(6, "a"), (7, "b")]))
        for value in OTHER_KINDS:
            self.refuse(net, value)
            for k in range(3):
                self.refuse(net, good[:k] + [value] + good[k + 1:])
            self.refuse(net, good + [value])
            if type(value) is not int:
                self.refuse(net, [(0, 5), (1, 6), (2, value)])
                self.refuse(net, [(0, 5), (1, 6), (value, 7)])
        self.refuse(net, tuple(good))
        self.refuse(net, [list(pair) for pair in good])
        self.refuse(net, dict(good))
        self.refuse(net, [pair + (0,) for pair in good])
        self.refuse(net, [pair[:1] for pair in good])
        self.refuse(net, [good])

    def test_true_and_false(self):
        net = Net([(0, 1), (0, 2)], [(1, "a"), (2, "b")])
        for paper in ([(False, 5), (1, 6), (2, 7)], [(0, 5), (True, 6), (2, 7)], [(0, False), (1, 6), (2, 7)],
                      [(0, 5), (1, True), (2, 7)]):
            self.refuse(net, paper)

    def test_places(self):
        net = Net(*CHERRY)
        self.refuse(net, [(2, 1), (4, 3)])
        self.refuse(net, [])
        self.refuse(net, [(2, 1), (4, 3), (9, 5), (10, 6)])
        self.refuse(net, [(2, 1), (4, 3), (10, 5)])
        self.refuse(net, [(2, 1), (4, 3), (9, 5), (9, 5)])
        self.refuse(net, [(2, 1), (4, 3), (9, 5), (9, 6)])
        self.refuse(net, [(2, 1), (4, 3), (4, 5)])
        self.refuse(net, [(2, 1), (4, 3), (-9, 5)])
        self.refuse(net, [(2, 1), (4, 3), (10 ** 59, 5)])

    def test_numbers_that_stand_twice(self):
        net = Net(*CHERRY)
        self.refuse(net, [(2, 1), (4, 1), (9, 5)])
        self.refuse(net, [(2, 1), (4, 5), (9, 1)])
        self.refuse(net, [(2, 1), (4, 1), (9, 1)])

    def test_nothing_is_kept(self):
        net = Net(*STACK)
        paper = [(place, place + 100) for place in net.places()]
        other = renumber(net, paper)
        copied = copy.deepcopy((other.arrows(), other.leaves()))
        paper.clear()
        self.assertEqual((other.arrows(), other.leaves()), copied)

    def test_by_name_and_again(self):
        net = Net(*CHERRY)
        for _ in range(2):
            found = renumber(paper=[(2, 1), (4, 0), (9, 2)], net=net)
            self.assertTrue(found == Net([(0, 1), (0, 2)], [(2, "a"), (1, "b")]))
            self.refuse(net, [(2, 1)])
