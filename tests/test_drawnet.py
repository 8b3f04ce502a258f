"""Drawings: points 72 to 77 and the heading levelgifts/drawnet.py."""

import random
from itertools import permutations

from checks import Case, shown
from levelgifts import drawnet as functions
from levelgifts.drawnet import all_orders, best_order, crossings, draw, is_order, layers
from levelgifts.faults import BadMoments, BadValue, TooMany
from levelgifts.momentjudge import is_moments
from levelgifts.nets import Net
from levelgifts.newick import read_newick
from levelgifts.pluck import put_back
from levelgifts.stuck import first_moments
from samples import CHERRY, DOC, ONE_PLACE, caterpillar
from slow_draw import slow_best, slow_crossings, slow_draw, slow_is_order, slow_layers, slow_orders
from test_moments import BENT, FIT, timed_nets

BIG = 10 ** 59
ABC = ["a", "b", "c"]
STRANGE = [None, True, False, 0, BIG, "", "abc", (), ("a", "b", "c"), [], ["a"], ["a", "b"], ["a", "b", "b"], ["a", "b", "c", "c"],
           ["a", "b", "c", "d"], ["a", "b", "d"], [["a", "b", "c"]], ["a", "b", None], ["a", "b", ["c"]], ["a", "b", True], [1, 2, 3],
           [("a", "b", "c")], ["A", "b", "c"], ["a b c"], ["a", "b", "c", ""], ["a"] * 400, [None], [[]]]


def small_nets(many, *, seed, most=5):
    return [net for net in timed_nets(many, seed=seed) if len(net[1]) <= most]


def full_net(leaves, mixings):
    """A net that can be plucked down, with so many leaves and mixings, and moments that fit it."""
    net = Net(*caterpillar(leaves))
    for k in range(mixings):
        net = put_back(net, (f"n{k % leaves}", f"n{(k + 3) % leaves}"))
    return net, first_moments(net)


def at_once(net, moments):
    """Moments that fit and in which as many gifts as can be are at one moment."""
    times = dict(moments)
    for old in sorted(set(times.values()), reverse=True):
        group = [place for place in net.inner() if times[place] == old]
        for later in sorted({moment for moment in times.values() if moment > old}, reverse=True):
            moved = {**times, **{place: later for place in group}}
            if is_moments(net, sorted(moved.items())):
                times = moved
                break
    return sorted(times.items())


class Orders(Case):
    def test_small(self):
        net = Net(*DOC)
        self.expect([["a", "b", "c"], ["a", "c", "b"], ["b", "c", "a"], ["c", "b", "a"]], all_orders, net, FIT)
        self.expect([["a"]], all_orders, moments=[(7, -3)], net=Net(*ONE_PLACE))
        self.expect([["a", "b"], ["b", "a"]], all_orders, Net(*CHERRY), [(2, 5), (4, 0), (9, 1)])
        for paper in permutations(ABC):
            self.expect(paper not in (("b", "a", "c"), ("c", "a", "b")), is_order, net, FIT, list(paper))

    def test_papers_of_any_kind(self):
        for paper in STRANGE:
            self.expect(False, is_order, Net(*DOC), FIT, paper)
            self.expect(False, is_order, Net(*CHERRY), [(2, 5), (4, 0), (9, 1)], paper if paper != ["a", "b"] else None)
        self.expect(True, is_order, paper=["c", "b", "a"], moments=FIT, net=Net(*DOC))
        self.expect(True, is_order, Net(*ONE_PLACE), [(7, 0)], ["a"])
        self.expect(False, is_order, Net(*ONE_PLACE), [(7, 0)], ["b"])

    def test_all_orders(self):
        for net in small_nets(150, seed=241):
            wanted, made = slow_orders(net), Net(*net[:2])
            self.expect(wanted, all_orders, made, net[2])
            self.assertEqual(len(wanted), 2 ** (len(net[1]) - 1))
            for paper in list(permutations(made.names()))[::7]:
                self.expect(slow_is_order(net, list(paper)), is_order, made, net[2], list(paper))

    def test_the_bound(self):
        for leaves in (6, 7):
            for mixings in (0, 8):
                net, moments = full_net(leaves, mixings)
                found = self.call(all_orders, net, moments)
                self.assertEqual(len(found), 2 ** (leaves - 1))
                self.assertEqual(found, sorted(found))
                self.assertEqual(len({tuple(order) for order in found}), len(found))
                self.assertTrue(all(slow_is_order((net.arrows(), net.leaves(), moments), order) for order in found[::9]))
        for leaves in (8, 9, 12):
            for mixings in (0, 3, 8):
                net, moments = full_net(leaves, mixings)
                for function in (all_orders, best_order):
                    self.refuses(TooMany, {"word": "leaves", "many": leaves}, function, net, moments)
                    self.refuses(BadMoments, {"word": "form", "at": None}, function, net, None)
                    bad = [(place, 0) for place in net.places()]
                    with self.assertRaises(BadMoments):
                        function(net, bad)
                order = self.some_order(net, moments)
                self.expect(True, is_order, net, moments, order)
                told = (net.arrows(), net.leaves(), moments)
                self.expect(slow_crossings(told, order), crossings, net, moments, order)
                self.expect(slow_layers(told, order), layers, net, moments, order)
                self.expect(slow_draw(told, order), draw, net, moments, order)

    def some_order(self, net, moments):
        """An order of the leaves, by going down the tree arrows."""
        at, order, waiting = dict(moments), [], [net.root]
        while waiting:
            place = waiting.pop()
            if net.kind_of(place) == "leaf":
                order.append(net.name_of(place))
            waiting += [child for child in net.children(place) if at[child] != at[place]]
        return order


class Crossings(Case):
    def test_small(self):
        net = Net(*DOC)
        for order, many in ((["a", "b", "c"], 0), (["a", "c", "b"], 1), (["b", "c", "a"], 1), (["c", "b", "a"], 0)):
            self.expect(many, crossings, net, FIT, order)
        self.expect(0, crossings, order=["a"], moments=[(7, 0)], net=Net(*ONE_PLACE))
        self.expect(["a", "b", "c"], best_order, net, FIT)
        self.expect(["a"], best_order, moments=[(7, 0)], net=Net(*ONE_PLACE))

    def test_lines_that_end_at_the_moment_count(self):
        # The leaf c ends when the gift goes from the mother of a to the mixing above b.
        net = read_newick("((a,(b)#1),(#1,c));")
        self.assertEqual(net.arrows(), Net(*DOC).arrows())
        moments = FIT[:6] + [(6, 2)]
        self.expect(1, crossings, net, moments, ["a", "c", "b"])
        moments = FIT[:5] + [(5, 1), (6, 2)]
        self.expect(0, crossings, net, moments, ["a", "b", "c"])

    def test_several_gifts_at_one_moment(self):
        net = read_newick("(((a,(x)#1),(b,(y)#2)),((#1,c),(#2,d)));")
        at = {place: 9 for place, name in net.leaves()}
        above = {name: net.mothers(place)[0] for place, name in net.leaves()}
        at.update({above[name]: 5 for name in "abxy"})
        at.update({above["c"]: 3, above["d"]: 4})
        at[net.root] = 0
        for place in net.children(net.root):
            at[place] = 1
        moments = sorted(at.items())
        self.assertTrue(is_moments(net, moments))
        told = (net.arrows(), net.leaves(), moments)
        for order in slow_orders(told):
            self.expect(slow_crossings(told, order), crossings, net, moments, order)
            self.expect(slow_draw(told, order), draw, net, moments, order)
            self.expect(slow_layers(told, order), layers, net, moments, order)
        self.assertEqual(draw(net, moments, ["a", "b", "x", "c", "y", "d"])[-2:], ["o-o-x-|-x |", "a b x c y d"])
        self.assertEqual(crossings(net, moments, ["a", "b", "x", "c", "y", "d"]), 1 + 2)

    def test_random_nets(self):
        chance, crossed = random.Random(242), 0
        for net in small_nets(120, seed=242):
            made = Net(*net[:2])
            for moments in (net[2], at_once(made, net[2])):
                net = (*net[:2], moments)
                orders = slow_orders(net)
                for order in chance.sample(orders, min(len(orders), 3)):
                    wanted = slow_crossings(net, order)
                    self.expect(wanted, crossings, made, moments, order)
                    self.expect(slow_layers(net, order), layers, made, moments, order)
                    self.expect(slow_draw(net, order), draw, made, moments, order)
                    crossed += wanted > 0
        self.assertGreater(crossed, 10)

    def test_the_best_order(self):
        ties, fewest = 0, set()
        for net in small_nets(120, seed=243):
            made, wanted = Net(*net[:2]), slow_best(net)
            self.expect(wanted, best_order, made, net[2])
            fewest.add(slow_crossings(net, wanted))
            ties += wanted != min(slow_orders(net))
        self.assertGreater(ties, 5)
        for leaves, mixings in ((5, 3), (5, 8), (6, 5), (7, 2)):
            net, moments = full_net(leaves, mixings)
            told = (net.arrows(), net.leaves(), moments)
            orders = all_orders(net, moments)
            counts = [slow_crossings(told, order) for order in orders]
            self.expect(orders[counts.index(min(counts))], best_order, net, moments)
            fewest.add(min(counts))
        self.assertGreater(len(fewest), 2)


class Layers(Case):
    def test_small(self):
        net = Net(*DOC)
        self.expect([(0, [0]), (1, [1, 5]), (2, [1, 3, 6])], layers, net, FIT, ["a", "b", "c"])
        self.expect([(0, [0]), (1, [5, 1]), (2, [6, 3, 1])], layers, net, FIT, ["c", "b", "a"])
        self.expect([], layers, order=["a"], moments=[(7, 0)], net=Net(*ONE_PLACE))

    def test_moments_of_leaves_alone_are_no_layers(self):
        self.expect([(-5, [4])], layers, Net(*CHERRY), [(2, 5), (4, -5), (9, BIG)], ["b", "a"])


class Drawings(Case):
    def test_the_example(self):
        net = read_newick("((a,(b)#1),(#1,c));")
        moments = [(0, 0), (1, 2), (2, 3), (3, 2), (4, 3), (5, 1), (6, 3)]
        self.expect(["+    ", "| +  ", "o-x |", "a b c"], draw, net, moments, ["a", "b", "c"])
        self.expect(["+    ", "+   |", "| x-o", "c b a"], draw, net, moments, ["c", "b", "a"])
        self.expect(["+    ", "| +  ", "o-|-x", "a c b"], draw, net, moments, ["a", "c", "b"])

    def test_small(self):
        self.expect(["a"], draw, order=["a"], moments=[(7, 0)], net=Net(*ONE_PLACE))
        self.expect(["+  ", "b a"], draw, Net(*CHERRY), [(2, 5), (4, 0), (9, 1)], ["b", "a"])
        net = read_newick("(((a,b),c),longname);")
        moments = sorted({**{place: 9 for place in net.places()}, 0: 0, 1: 1, 2: 3}.items())
        self.expect(["+      ", "+     |", "+   | |", "a b c longname"], draw, net, moments, ["a", "b", "c", "longname"])

    def test_leaves_that_end(self):
        net = read_newick("(((a,b),c),d);")
        moments = sorted({**{place: 9 for place in net.places()}, 0: 0, 1: 1, 2: 3, 5: 3, 6: 1}.items())
        self.expect(["+      ", "+     .", "+   .  ", "a b c d"], draw, net, moments, ["a", "b", "c", "d"])
        self.expect(["+      ", ". +    ", "  . +  ", "d c a b"], draw, net, moments, ["d", "c", "a", "b"])

    def test_each_sign(self):
        seen = {sign: 0 for sign in "|ox+.- "}
        for net in small_nets(150, seed=244):
            made, at = Net(*net[:2]), dict(net[2])
            # Leaves that end early, where their mothers allow it.
            ends = {place: max(at[mother] for mother in made.mothers(place)) + 1 for place, name in net[1] if made.mothers(place)}
            moments = sorted({**at, **ends}.items())
            told = (*net[:2], moments)
            if is_moments(made, moments):
                for order in all_orders(made, moments)[:3]:
                    drawn = self.call(draw, made, moments, order)
                    self.assertEqual(drawn, slow_draw(told, order))
                    for sign in seen:
                        seen[sign] += any(sign in line for line in drawn[:-1])
        self.assertGreater(min(seen.values()), 20)


class Errors(Case):
    def test_moments_that_do_not_fit(self):
        net = Net(*DOC)
        for paper, (word, at) in BENT:
            told = {"word": word, "at": at}
            for function in (all_orders, best_order):
                self.refuses(BadMoments, told, function, net, paper)
            for name in ("is_order", "crossings", "layers", "draw"):
                for order in STRANGE[::4] + [ABC]:
                    self.refuses(BadMoments, told, getattr(functions, name), net, paper, order)

    def test_what_is_no_order(self):
        net = Net(*DOC)
        for function in (crossings, layers, draw):
            for order in STRANGE + [["b", "a", "c"], ["c", "a", "b"]]:
                self.refuses(BadValue, {"bad": order}, function, net, FIT, order)
            self.refuses(BadValue, {"bad": []}, function, Net(*ONE_PLACE), [(7, 0)], [])

    def test_equal_calls_behind_others(self):
        net = Net(*DOC)

        def answers():
            return [all_orders(net, FIT), best_order(net, FIT), layers(net, FIT, ABC), draw(net, FIT, ABC), crossings(net, FIT, ABC)]

        before = shown(answers())
        for found in answers()[:4]:
            found.clear()
        draw(net, FIT, ["c", "b", "a"]), layers(net, FIT, ["c", "b", "a"])[0][1].clear()
        self.assertEqual(shown(answers()), before)
        self.assertEqual((net.arrows(), net.leaves()), DOC)
