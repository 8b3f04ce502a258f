"""Net objects: points 2, 10, 13 and 14 and the class of the heading levelgifts/nets.py."""

import copy
import unittest

from levelgifts.faults import BadNet, NoLeaf, NoPlace
from levelgifts.nets import Net
from samples import CHERRY, DOC, KNOT, ONE_PLACE, SAMPLES, SHORT, STACK, caterpillar, random_nets, stacked

LISTS = ("places", "inner", "splits", "mixings", "arrows", "leaves", "names", "downward")
BY_PLACE = ("mothers", "children", "kind_of", "name_of")
NO_PLACES = [-1, -7, 10000, 10 ** 59, 10 ** 60 - 1, -(10 ** 60 - 1), 3000, 12345]
NO_NAMES = ["", "A", "1", " ", "a ", "\n", "x" * 4000, "z" * 9, "None", "0", "~", "nobody"]


def answers(net):
    """All that the methods and properties of the net answer."""
    found = [net.root, list(net)] + [getattr(net, method)() for method in LISTS]
    found += [[getattr(net, method)(place) for place in net.places()] for method in BY_PLACE]
    return found + [net.place_of(name) for name in net.names()]


def expected(arrows, leaves):
    """The same, read from the two lists."""
    places = sorted({end for arrow in arrows for end in arrow} | {place for place, name in leaves})
    mothers = {p: sorted(u for u, v in arrows if v == p) for p in places}
    children = {p: sorted(v for u, v in arrows if u == p) for p in places}
    kinds = {p: ["leaf", "mixing", "split"][len(children[p])] for p in places}
    names = {place: name for place, name in leaves}
    listed = []
    while len(listed) < len(places):
        listed.append(min(p for p in places if p not in listed and all(u in listed for u in mothers[p])))
    of_kind = {word: [p for p in places if kinds[p] == word] for word in ("leaf", "split", "mixing")}
    found = [[p for p in places if not mothers[p]][0], sorted(names.values())]
    found += [places, sorted(of_kind["split"] + of_kind["mixing"]), of_kind["split"], of_kind["mixing"]]
    found += [sorted(arrows), sorted(leaves), sorted(names.values()), listed]
    found += [[table[p] for p in places] for table in (mothers, children, kinds)]
    found += [[names.get(p) for p in places]]
    return found + [min(p for p in names if names[p] == name) for name in sorted(names.values())]


class Answers(unittest.TestCase):
    def test_the_one_place_net(self):
        net = Net(*ONE_PLACE)
        self.assertEqual(net.root, 7)
        self.assertEqual([getattr(net, method)() for method in LISTS], [[7], [], [], [], [], [(7, "a")], ["a"], [7]])
        self.assertEqual([getattr(net, method)(7) for method in BY_PLACE], [[], [], "leaf", "a"])
        self.assertEqual((net.place_of("a"), list(net)), (7, ["a"]))

    def test_a_net_with_splits_alone(self):
        net = Net([(4, 9), (4, 2), (2, 30), (2, 3)], [(9, "a"), (30, "b"), (3, "a1")])
        self.assertEqual(net.root, 4)
        self.assertEqual(net.places(), [2, 3, 4, 9, 30])
        self.assertEqual((net.inner(), net.splits(), net.mixings()), ([2, 4], [2, 4], []))
        self.assertEqual(net.arrows(), [(2, 3), (2, 30), (4, 2), (4, 9)])
        self.assertEqual(net.leaves(), [(3, "a1"), (9, "a"), (30, "b")])
        self.assertEqual(net.names(), ["a", "a1", "b"])
        self.assertEqual((net.mothers(4), net.mothers(2), net.mothers(3)), ([], [4], [2]))
        self.assertEqual((net.children(4), net.children(2), net.children(9)), ([2, 9], [3, 30], []))
        self.assertEqual((net.kind_of(4), net.kind_of(2), net.kind_of(9)), ("split", "split", "leaf"))
        self.assertEqual((net.name_of(4), net.name_of(2), net.name_of(30)), (None, None, "b"))
        self.assertEqual((net.place_of("a"), net.place_of("a1"), net.place_of("b")), (9, 3, 30))
        self.assertEqual(net.downward(), [4, 2, 3, 9, 30])

    def test_a_mixing_right_below_a_mixing_and_right_above_a_leaf(self):
        net = Net(*STACK)
        self.assertEqual(net.root, 50)
        self.assertEqual(net.places(), [2, 4, 6, 17, 30, 50, 99])
        self.assertEqual((net.inner(), net.splits(), net.mixings()), ([4, 6, 17, 30, 50], [6, 17, 50], [4, 30]))
        self.assertEqual((net.mothers(30), net.children(30)), ([6, 50], [4]))
        self.assertEqual((net.mothers(4), net.children(4)), ([6, 30], [17]))
        self.assertEqual((net.kind_of(30), net.kind_of(4), net.name_of(4)), ("mixing", "mixing", None))
        self.assertEqual(net.downward(), [50, 6, 30, 4, 17, 2, 99])
        other = Net(*stacked(2))
        self.assertEqual((other.mothers(4), other.kind_of(3), other.name_of(4)), ([3], "mixing", "a"))

    def test_mothers_that_are_mother_and_child(self):
        net = Net(*SHORT)
        self.assertEqual(net.root, 8)
        self.assertEqual((net.mothers(0), net.children(0), net.kind_of(0)), ([3, 8], [9999], "mixing"))
        self.assertEqual((net.children(8), net.children(3)), ([0, 3], [0, 5]))
        self.assertEqual(net.leaves(), [(5, "y1"), (9999, "x")])
        self.assertEqual((net.names(), net.place_of("x")), (["x", "y1"], 9999))
        self.assertEqual(net.downward(), [8, 3, 0, 5, 9999])

    def test_downward_takes_the_least_place_each_time(self):
        # 1 and 2 wait for the higher numbers 7 and 8, and 5 comes ahead of 2.
        self.assertEqual(Net(*KNOT).downward(), [9, 7, 8, 1, 2, 5, 6])
        arrows = [(60, 9), (60, 40), (9, 50), (9, 8), (40, 1), (40, 30), (1, 70), (1, 2)]
        leaves = [(50, "a"), (8, "b"), (30, "c"), (70, "d"), (2, "e")]
        self.assertEqual(Net(arrows, leaves).downward(), [60, 9, 8, 40, 1, 2, 30, 50, 70])

    def test_each_sample_and_random_nets(self):
        for arrows, leaves in SAMPLES + random_nets(200, seed=7):
            self.assertEqual(answers(Net(arrows, leaves)), expected(arrows, leaves))

    def test_kinds_of_values(self):
        net = Net(*DOC)
        for method in LISTS:
            self.assertIs(type(getattr(net, method)()), list, method)
        self.assertEqual({type(item) for item in net.arrows() + net.leaves()}, {tuple})
        self.assertEqual((type(net.mothers(3)), type(net.children(3))), (list, list))
        self.assertIs(type(net.root), int)

    def test_by_name(self):
        arrows, leaves = DOC
        net = Net(leaves=leaves, arrows=arrows)
        self.assertEqual(answers(net), answers(Net(arrows, leaves)))
        self.assertEqual([getattr(net, method)(place=3) for method in BY_PLACE], [[1, 5], [4], "mixing", None])
        self.assertEqual(net.place_of(name="b"), 4)


class NewLists(unittest.TestCase):
    def test_each_call_returns_new_lists(self):
        for arrows, leaves in SAMPLES:
            net = Net(arrows, leaves)
            for method in LISTS:
                self.assertIsNot(getattr(net, method)(), getattr(net, method)(), method)
            for place in net.places():
                self.assertIsNot(net.mothers(place), net.mothers(place))
                self.assertIsNot(net.children(place), net.children(place))

    def test_changing_what_was_returned_changes_nothing(self):
        for arrows, leaves in SAMPLES:
            net = Net(arrows, leaves)
            before = answers(net)
            for method in LISTS:
                found = getattr(net, method)()
                found.append((1, 2))
                found.reverse()
                del found[0]
            for place in net.places():
                net.mothers(place).append(1)
                net.children(place).append(1)
                net.mothers(place).clear()
                net.children(place).clear()
            self.assertEqual(answers(net), before)
            self.assertTrue(net == Net(arrows, leaves))

    def test_changing_what_was_passed_changes_nothing(self):
        for sample in SAMPLES:
            arrows, leaves = copy.deepcopy(sample)
            net = Net(arrows, leaves)
            self.assertEqual((arrows, leaves), sample)
            before = answers(net)
            arrows.append((3, 3))
            arrows.reverse()
            leaves[0] = (1, "other")
            leaves.append((77, "q"))
            self.assertEqual(answers(net), before)
            self.assertTrue(net == Net(*sample))

    def test_equal_calls_return_equal_values_behind_other_calls(self):
        net = Net(*DOC)
        before = answers(net)
        self.assertEqual(answers(net), before)
        for place in NO_PLACES:
            with self.assertRaises(NoPlace):
                net.mothers(place)
        with self.assertRaises(NoLeaf):
            net.place_of("nobody")
        with self.assertRaises(BadNet):
            Net([], [])
        self.assertEqual((net == 3, "a" in net, net.downward()), (False, True, net.downward()))
        self.assertEqual(answers(net), before)
        self.assertEqual(answers(Net(*DOC)), before)


class Errors(unittest.TestCase):
    def test_no_place(self):
        for sample in (ONE_PLACE, CHERRY, DOC, SHORT, STACK):
            net = Net(*sample)
            for place in NO_PLACES + [k for k in range(12) if k not in net.places()]:
                for method in BY_PLACE:
                    with self.assertRaises(NoPlace) as caught:
                        getattr(net, method)(place)
                    self.assertEqual(caught.exception.bad, place)

    def test_no_leaf(self):
        for sample in (ONE_PLACE, CHERRY, DOC, SHORT, STACK):
            net = Net(*sample)
            for name in NO_NAMES:
                with self.assertRaises(NoLeaf) as caught:
                    net.place_of(name)
                self.assertEqual(caught.exception.bad, name)

    def test_bad_net(self):
        for arrows, leaves, word, at in (
            ([], [], "none", 0),
            ([(0, 1)], [(1, "a")], "degree", 0),
            ([(0, 1), [0, 2]], [(1, "a"), (2, "b")], "arrow", 1),
            (*stacked(9), "mixings", 9),
            (*caterpillar(13), "long", 1),
        ):
            with self.assertRaises(BadNet) as caught:
                Net(arrows=arrows, leaves=leaves)
            self.assertEqual((caught.exception.word, caught.exception.at), (word, at))


class Equal(unittest.TestCase):
    def test_another_order(self):
        for arrows, leaves in SAMPLES:
            net = Net(arrows, leaves)
            for other in (Net(arrows[::-1], leaves[::-1]), Net(sorted(arrows), sorted(leaves)), Net(arrows, leaves)):
                self.assertIs(net == other, True)
                self.assertIs(net != other, False)
            self.assertIs(net == net, True)

    def test_other_nets(self):
        nets = [Net(*sample) for sample in SAMPLES]
        for k, one in enumerate(nets):
            for m, two in enumerate(nets):
                self.assertIs(one == two, k == m, (k, m))
                self.assertIs(one != two, k != m, (k, m))

    def test_a_little_change(self):
        net = Net(*CHERRY)
        self.assertIs(net == Net([(4, 9), (4, 2)], [(9, "b"), (2, "a")]), False)
        self.assertIs(net == Net([(4, 9), (4, 2)], [(9, "a"), (2, "c")]), False)
        self.assertIs(net == Net([(5, 9), (5, 2)], [(9, "a"), (2, "b")]), False)
        self.assertIs(net != Net([(5, 9), (5, 2)], [(9, "a"), (2, "b")]), True)
        self.assertIs(Net([], [(0, "a")]) == Net([], [(1, "a")]), False)
        self.assertIs(Net([], [(0, "a")]) == Net([], [(0, "b")]), False)
        # The same leaves, and other arrows between the same places.
        leaves = [(2, "a"), (3, "b"), (4, "c")]
        one = Net([(0, 1), (0, 2), (1, 3), (1, 4)], leaves)
        self.assertIs(one == Net([(0, 1), (0, 3), (1, 2), (1, 4)], leaves), False)

    def test_what_is_no_net(self):
        net = Net(*ONE_PLACE)
        for other in (0, 7, "a", "a;", None, True, False, [], (), ["a"], ("a",), ([], [(7, "a")]), [[], [(7, "a")]],
                      [(7, "a")], {}, object(), Net, BadNet("none", 0)):
            self.assertIs(net == other, False)
            self.assertIs(net != other, True)
            self.assertIs(other == net, False)
            self.assertIs(other != net, True)


class Names(unittest.TestCase):
    def test_in(self):
        net = Net(*SHORT)
        for name in ("x", "y1"):
            self.assertIs(name in net, True)
            self.assertIs(name not in net, False)
        for name in NO_NAMES + ["y", "xx", "a"]:
            self.assertIs(name in net, False)
            self.assertIs(name not in net, True)

    def test_in_with_other_kinds(self):
        for sample in SAMPLES:
            net = Net(*sample)
            for value in [0, 7, -1, 10 ** 59, True, False, None, [], (), ["a"], ("a",), [["a"]], ("x", "y1"), [[], {}],
                          (["a"],), (7, "a"), [(7, "a")], net.names(), tuple(net.names())] + net.places():
                self.assertIs(value in net, False, value)

    def test_iterating(self):
        for arrows, leaves in SAMPLES:
            self.assertEqual([name for name in Net(arrows, leaves)], sorted(name for place, name in leaves))
        net = Net([(0, 1), (0, 2), (2, 3), (2, 4), (4, 5), (4, 6)], [(1, "ba"), (3, "aa"), (5, "b"), (6, "a1")])
        self.assertEqual(list(net), ["a1", "aa", "b", "ba"])
        self.assertEqual(net.names(), ["a1", "aa", "b", "ba"])

    def test_iterating_twice_at_once(self):
        net = Net(*DOC)
        self.assertEqual([(one, two) for one in net for two in net], [(x, y) for x in "abc" for y in "abc"])
        first, second = iter(net), iter(net)
        self.assertEqual([next(first), next(first), next(second), next(first), next(second)], list("abacb"))
        self.assertEqual((list(first), list(second), list(net)), ([], ["c"], ["a", "b", "c"]))


class Kinds(unittest.TestCase):
    def test_numbers_of_mothers_and_children(self):
        numbers = {"leaf": {(1, 0)}, "split": {(1, 2), (0, 2)}, "mixing": {(2, 1)}}
        for arrows, leaves in SAMPLES[1:] + [net for net in random_nets(100, seed=3) if net[0]]:
            net = Net(arrows, leaves)
            for place in net.places():
                degrees = (len(net.mothers(place)), len(net.children(place)))
                self.assertIn(degrees, numbers[net.kind_of(place)])
                self.assertEqual(net.name_of(place) is None, net.kind_of(place) != "leaf")
                self.assertEqual(degrees[0] == 0, place == net.root)
            self.assertEqual(net.kind_of(net.root), "split")
            self.assertEqual(sorted(net.inner() + [place for place, name in net.leaves()]), net.places())
            self.assertEqual(sorted(net.splits() + net.mixings()), net.inner())
