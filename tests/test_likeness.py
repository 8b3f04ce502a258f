"""Likeness of two nets: points 15 and 43 and the heading levelgifts/stuck.py."""

import random

from checks import Case
from levelgifts.faults import TooMany
from levelgifts.nets import Net, is_match, renumber
from levelgifts.newick import read_newick
from levelgifts.pluck import put_back
from levelgifts.stuck import alike, find_match, stuck_rest
from samples import CHERRY, DOC, KNOT, ONE_PLACE, SAMPLES, SHORT, below, caterpillar, random_nets, stacked
from slow_knots import slow_alike, slow_stuck


def moved(sample, step, word):
    """The two lists with other numbers and with a letter before each name."""
    arrows, leaves = sample
    return [(u + step, v + step) for u, v in arrows], [(place + step, word + name) for place, name in leaves]


def joined(*samples):
    """The two lists of a net that has the nets below a chain of splits."""
    arrows, leaves, top = [], [], None
    for k, sample in enumerate(samples):
        more, named = moved(sample, 100 * k, "pqrst"[k])
        root = [p for p in {u for u, v in more} if p not in {v for u, v in more}][0]
        arrows, leaves = arrows + more, leaves + named
        if top is not None:
            arrows += [(9000 + k, top), (9000 + k, root)]
            root = 9000 + k
        top = root
    return arrows, leaves


NINE = joined(stacked(2), stacked(2), KNOT)
TEN = joined(KNOT, stacked(2), KNOT)
ELEVEN = joined(KNOT, KNOT, KNOT)


def other_numbers(chance, net):
    """An alike net with random numbers."""
    places = net.places()
    return renumber(net, list(zip(places, chance.sample(range(10000), len(places)))))


def small_stuck_nets(many, *, seed):
    """Stuck nets with few inner places whose leaves are named a, b, .. by their places."""
    found = []
    for arrows, leaves in random_nets(many, seed=seed):
        rest = stuck_rest(Net(arrows, leaves))
        if rest is not None and len(rest.splits()) < 6 and len(rest.mixings()) < 5:
            found.append((rest.arrows(), [(place, "abcdefgh"[k]) for k, (place, name) in enumerate(rest.leaves())]))
    return found


def slow_counts(sample):
    """For each leaf's name the number of the places above it; alike nets have the same."""
    arrows, leaves = sample
    return sorted((name, sum(place in below(upper, arrows) for upper in {u for u, v in arrows})) for place, name in leaves)


class Found(Case):
    def check(self, first, second):
        match = self.call(find_match, first, second)
        self.assertTrue(is_match(first, second, match))
        self.expect(True, alike, first, second)

    def check_none(self, first, second):
        self.expect(None, find_match, first, second)
        self.expect(False, alike, first, second)

    def test_small(self):
        self.expect([(7, 7)], find_match, Net(*ONE_PLACE), Net(*ONE_PLACE))
        self.expect([(7, 0)], find_match, Net(*ONE_PLACE), read_newick("a;"))
        self.expect([(2, 2), (4, 0), (9, 1)], find_match, Net(*CHERRY), read_newick("(a,b);"))
        first, second = Net(*DOC), read_newick("((c,#1),((b)#1,a));")
        self.expect([(0, 0), (1, 4), (2, 6), (3, 3), (4, 5), (5, 1), (6, 2)], find_match, first, second)
        self.check(first, second)

    def test_other_names(self):
        self.check_none(Net(*ONE_PLACE), Net([], [(7, "b")]))
        self.check_none(Net(*CHERRY), read_newick("(a,c);"))
        self.check_none(Net(*CHERRY), read_newick("((a,b),c);"))
        self.check_none(Net(*DOC), Net(DOC[0], [(2, "a"), (4, "c"), (6, "b")]))
        self.check_none(Net(*KNOT), Net(KNOT[0], [(5, "b"), (6, "c")]))
        # The least rows are the same, and the names of their rests are not.
        self.check_none(read_newick("a;"), read_newick("b;"))

    def test_other_shapes(self):
        self.check_none(read_newick("((a,b),c);"), read_newick("(a,(b,c));"))
        self.check_none(read_newick("((a,b),c);"), read_newick("((a,c),b);"))
        self.check_none(read_newick("((a,(b)#1),(#1,c));"), read_newick("((a,b),c);"))
        self.check_none(Net(*DOC), Net(*SHORT))

    def test_counts_that_agree(self):
        # The mixings stand right above another mixing and a leaf, in one of two ways.
        first = read_newick("((((a)#3)#1,(#3)#2),(#1,#2));")
        second = read_newick("((((a)#3)#1,#2),((#3)#2,#1));")
        self.check(first, second)
        # Two knots, of which the one is below the other one at b or at a different leaf.
        top = joined(KNOT, KNOT)
        self.check(Net(*top), Net(top[0], [(105, "qa"), (106, "qb"), (5, "pa"), (6, "pb")]))
        self.check_none(Net(*top), Net(top[0], [(105, "qa"), (6, "qb"), (5, "pa"), (106, "pb")]))

    def test_renumbered_nets(self):
        chance, stuck = random.Random(101), 0
        for arrows, leaves in SAMPLES + [NINE] + random_nets(300, seed=101):
            net = Net(arrows, leaves)
            rest = stuck_rest(net)
            if rest is None or len(rest.splits()) < 10:
                self.check(net, other_numbers(chance, net))
                self.check(net, net)
                stuck += slow_stuck(arrows, leaves)
        self.assertGreater(stuck, 20)

    def test_stuck_nets_with_the_same_names(self):
        samples, answers = small_stuck_nets(800, seed=102), {True: 0, False: 0}
        for k, one in enumerate(samples):
            for other in samples[k + 1:]:
                counts = [(len(arrows), len(leaves)) for arrows, leaves in (one, other)]
                if counts[0] == counts[1] and (answers[False] < 200 or slow_counts(one) == slow_counts(other)):
                    wanted = slow_alike(one, other)
                    found = find_match(Net(*one), Net(*other))
                    self.assertIs(found is not None, wanted)
                    self.assertIs(alike(Net(*one), Net(*other)), wanted)
                    if wanted:
                        self.assertTrue(is_match(Net(*one), Net(*other), found))
                    answers[wanted] += 1
        self.assertGreater(min(answers.values()), 10, answers)

    def test_nets_with_two_names_changed(self):
        chance, answers = random.Random(103), {True: 0, False: 0}
        for arrows, leaves in SAMPLES[1:7] + random_nets(300, seed=103):
            if len(leaves) > 1 and len(arrows) < 15:
                names = [name for place, name in leaves]
                one, two = chance.sample(range(len(names)), 2)
                names[one], names[two] = names[two], names[one]
                other = (arrows, [(place, name) for (place, _), name in zip(leaves, names)])
                wanted = slow_alike((arrows, leaves), other)
                self.expect(wanted, alike, Net(arrows, leaves), other_numbers(chance, Net(*other)))
                answers[wanted] += 1
        self.assertGreater(min(answers.values()), 20, answers)

    def test_by_name(self):
        self.expect([(7, 7)], find_match, second=Net(*ONE_PLACE), first=Net(*ONE_PLACE))
        self.expect([(7, 0)], find_match, second=read_newick("a;"), first=Net(*ONE_PLACE))
        self.expect(True, alike, second=read_newick("a;"), first=Net(*ONE_PLACE))

    def test_equal_calls_behind_others(self):
        net, other = Net(*KNOT), renumber(Net(*KNOT), [(place, 30 - place) for place in (1, 2, 5, 6, 7, 8, 9)])
        before = find_match(net, other)
        find_match(other, net).clear()
        find_match(net, net).clear()
        find_match(net, other).clear()
        self.assertEqual(find_match(net, other), before)


class Bounds(Case):
    def test_too_many(self):
        small = [Net(*sample) for sample in (ONE_PLACE, CHERRY, KNOT, NINE)]
        ten, eleven = Net(*TEN), Net(*ELEVEN)
        self.assertEqual([len(net.splits()) for net in (ten, eleven, small[3])], [10, 11, 9])
        for function in (find_match, alike):
            for net in small + [ten]:
                self.refuses(TooMany, {"word": "splits", "many": 10}, function, ten, net)
                self.refuses(TooMany, {"word": "splits", "many": 10}, function, net, ten)
            self.refuses(TooMany, {"word": "splits", "many": 10}, function, ten, eleven)
            self.refuses(TooMany, {"word": "splits", "many": 11}, function, eleven, ten)
            for net in small:
                self.refuses(TooMany, {"word": "splits", "many": 11}, function, net, eleven)

    def test_the_splits_of_the_rest_and_not_of_the_net(self):
        chance = random.Random(104)
        net = put_back(Net(*ELEVEN), ("new", "pa"))
        self.refuses(TooMany, {"word": "splits", "many": 11}, find_match, net, net)
        net = put_back(Net(*NINE), ("new", "ra"))
        self.assertEqual(len(net.splits()), 10)
        self.assertTrue(is_match(net, net, self.call(find_match, net, net)))
        other = other_numbers(chance, net)
        self.assertTrue(is_match(net, other, find_match(net, other)))

    def test_nets_that_can_be_plucked_down(self):
        chance, net = random.Random(105), Net(*caterpillar(12))
        for k in range(8):
            net = put_back(net, (f"n{k}", f"n{11 - k}"))
            other = other_numbers(chance, net)
            self.assertTrue(is_match(net, other, self.call(find_match, net, other)))
        self.assertEqual(len(net.splits()), 19)
        self.expect(False, alike, net, put_back(Net(*caterpillar(11)), ("n3", "n5")))

    def test_nine_splits_that_differ(self):
        # All matches of the places from the root on are tried before the answer is no.
        chance, net = random.Random(106), Net(*NINE)
        for _ in range(5):
            leaves = net.leaves()
            names = [name for place, name in leaves]
            chance.shuffle(names)
            other = Net(net.arrows(), [(place, name) for (place, _), name in zip(leaves, names)])
            found = self.call(find_match, net, other)
            self.assertTrue(found is None or is_match(net, other, found))
