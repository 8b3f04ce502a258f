"""Whether moments fit: points 29 and 30 and the heading levelgifts/momentjudge.py."""

import random

from checks import Case
from levelgifts.momentjudge import is_moments, moment_fault
from levelgifts.nets import Net
from levelgifts.newick import read_newick
from samples import CHERRY, DOC, KNOT, ONE_PLACE, SAMPLES, SHORT, STACK, random_nets
from slow_moments import places_of, slow_moment_fault

FIT = [(0, 0), (1, 2), (2, 3), (3, 2), (4, 3), (5, 1), (6, 3)]
BIG = 10 ** 59


def timed(moments):
    """The paper with the moments of the places 0, 1, 2, .."""
    return [(place, moment) for place, moment in enumerate(moments)]


class Faults(Case):
    def fault(self, wanted, net, paper):
        self.expect(wanted, moment_fault, net, paper)
        self.expect(wanted is None, is_moments, net, paper)

    def test_moments_that_fit(self):
        net = Net(*DOC)
        self.fault(None, net, FIT)
        self.fault(None, net, timed([-9, -7, -6, -7, 5, -8, 100]))
        self.fault(None, net, timed([-BIG, 0, BIG, 0, 1, -1, BIG]))
        self.fault(None, net, timed([0, 1, 3, 2, 3, 2, 3]))
        self.fault(None, Net(*SHORT), [(0, 2), (3, 2), (5, 3), (8, 1), (9999, 3)])
        self.fault(None, Net(*CHERRY), [(2, 0), (4, -1), (9, 7)])

    def test_the_one_place_net(self):
        for moment in (0, 1, -1, BIG, -BIG):
            self.fault(None, Net(*ONE_PLACE), [(7, moment)])
        for paper in ([], [(0, 0)], [(7, 0), (7, 0)], [(7, True)], [(7, None)], [(7,)], (7, 0), [[7, 0]], ((7, 0),)):
            self.fault(("form", None), Net(*ONE_PLACE), paper)

    def test_back_alone(self):
        net = Net(*DOC)
        # An arrow into a leaf that stands still, and some that go back.
        self.fault(("back", (5, 6)), net, timed([0, 2, 3, 2, 3, 1, 1]))
        self.fault(("back", (5, 6)), net, timed([0, 2, 3, 2, 3, 1, 0]))
        self.fault(("back", (5, 6)), net, timed([0, 2, 3, 2, 3, 1, -BIG]))
        # An arrow into a split.
        self.fault(("back", (0, 5)), net, timed([0, 2, 3, 2, 3, 0, 3]))
        self.fault(("back", (0, 1)), net, timed([0, -2, 3, 2, 3, 2, 3]))
        # An arrow into a mixing.
        self.fault(("back", (1, 3)), net, timed([0, 3, 4, 2, 4, 2, 4]))

    def test_the_least_arrow(self):
        net = Net(*DOC)
        self.fault(("back", (1, 2)), net, timed([0, 2, 2, 2, 2, 1, 1]))
        self.fault(("back", (0, 1)), net, timed([7, 2, 2, 2, 2, 1, 1]))
        self.fault(("back", (0, 5)), net, timed([1, 2, 3, 2, 2, 1, 1]))
        # By the mother's place and then by the child's, whatever the moments.
        arrows, leaves = [(9, 2), (9, 4), (4, 1), (4, 8), (2, 5), (2, 0)], [(1, "a"), (8, "b"), (5, "c"), (0, "d")]
        self.fault(("back", (2, 0)), Net(arrows, leaves), [(0, -9), (1, -9), (2, 2), (4, 2), (5, -9), (8, -9), (9, 0)])
        self.fault(("back", (2, 5)), Net(arrows, leaves), [(0, 3), (1, -9), (2, 2), (4, 2), (5, -9), (8, -9), (9, 9)])

    def test_gift_alone(self):
        net = Net(*DOC)
        self.fault(("gift", 3), net, timed([0, 1, 3, 2, 3, 1, 3]))
        self.fault(("gift", 3), net, timed([0, 2, 3, 2, 3, 2, 3]))
        self.fault(("gift", 3), net, timed([0, 1, 4, 3, 4, 2, 4]))

    def test_the_least_mixing(self):
        # Both mixings of the knot have no gift; then each has one or two.
        net = Net(*KNOT)
        self.fault(("gift", 1), net, [(1, 5), (2, 5), (5, 9), (6, 9), (7, 1), (8, 2), (9, 0)])
        self.fault(("gift", 2), net, [(1, 3), (2, 5), (5, 9), (6, 9), (7, 3), (8, 2), (9, 0)])
        self.fault(("gift", 1), net, [(1, 2), (2, 3), (5, 9), (6, 9), (7, 2), (8, 2), (9, 0)])

    def test_gifts_from_mothers_of_whatever_kind(self):
        # The mixing 4 has the moment of its mother 30, a mixing. Then the place 30 has no later child.
        fit = [(2, 9), (4, 3), (6, 1), (17, 4), (30, 3), (50, 0), (99, 9)]
        self.fault(("gift", 30), Net(*STACK), fit)
        net = read_newick("((((b)#2)#1,a),((#1,d),(#2,c)));")
        self.assertEqual((net.mixings(), net.mothers(3)), ([2, 3], [2, 9]))
        self.assertEqual([net.mothers(2), net.inner()], [[1, 7], [0, 1, 2, 3, 6, 7, 9]])
        # The moments of the mixing 2, of its child 3 and of the other mother 9 of that.
        for two, three, nine, wanted in ((3, 5, 5, None), (4, 5, 5, ("gift", 2)), (3, 6, 5, ("gift", 3)),
                                         (3, 3, 3, ("gift", 3)), (3, 3, 2, ("late", 2))):
            self.fault(wanted, net, timed([0, 1, two, three, 9, 9, 1, 3, 9, nine, 10]))

    def test_late_alone(self):
        # The split 7 has no child that is later, but gives to both mixings.
        self.fault(("late", 7), Net(*KNOT), [(1, 2), (2, 2), (5, 3), (6, 3), (7, 2), (8, 1), (9, 0)])
        self.fault(("late", 8), Net(*KNOT), [(1, 2), (2, 2), (5, 3), (6, 3), (7, 1), (8, 2), (9, 0)])
        # The upper mixing 2 gives to the lower one.
        net = read_newick("((((b)#2)#1,a),(#1,(#2,c)));")
        late = [(place, {0: 0, 1: 3, 2: 3, 3: 3, 6: 1, 7: 2}.get(place, 9)) for place in net.places()]
        self.assertEqual(net.mixings(), [2, 3])
        self.fault(("late", 2), net, late)

    def test_the_least_late_place(self):
        # Two nets of the knot's form, side by side; in each one of two splits gives to both mixings.
        net = read_newick("((((a)#1,(b)#2),(#1,#2)),(((c)#3,(d)#4),(#3,#4)));")
        self.assertEqual((net.mixings(), net.inner()), ([3, 5, 10, 12], [0, 1, 2, 3, 5, 7, 8, 9, 10, 12, 14]))
        self.fault(("late", 7), net, timed([0, 1, 4, 5, 6, 5, 6, 5, 1, 5, 5, 6, 5, 6, 4]))
        self.fault(("late", 2), net, timed([0, 1, 5, 5, 6, 5, 6, 4, 1, 5, 5, 6, 5, 6, 4]))
        self.fault(("late", 2), net, timed([0, 1, 5, 5, 6, 5, 6, 4, 1, 4, 5, 6, 5, 6, 5]))

    def test_two_faults(self):
        net = Net(*DOC)
        # The form goes ahead of all, then back, gift, late.
        self.fault(("form", None), net, timed([0, 2, 2, 2, 2, 1, True]))
        self.fault(("form", None), net, timed([0, 1, 3, 2, 3, 1, 3])[:6])
        self.fault(("back", (5, 6)), net, timed([0, 1, 3, 2, 3, 1, 1]))
        self.fault(("back", (3, 4)), net, timed([0, 2, 3, 2, 2, 1, 3]))
        self.fault(("gift", 1), Net(*KNOT), [(1, 2), (2, 2), (5, 3), (6, 3), (7, 2), (8, 2), (9, 0)])
        self.fault(("back", (9, 8)), Net(*KNOT), [(1, 2), (2, 2), (5, 3), (6, 3), (7, 2), (8, 1), (9, 1)])
        # The word counts first, and not the number of the place.
        net = read_newick("((((b)#2)#1,a),((#1,d),(#2,c)));")
        self.fault(("gift", 3), net, timed([0, 1, 3, 3, 9, 9, 1, 3, 9, 3, 10]))

    def test_random_papers(self):
        chance = random.Random(51)
        seen = {}
        for arrows, leaves in (SAMPLES + random_nets(300, seed=51)) * 6:
            net, top = Net(arrows, leaves), chance.choice([2, 4, 9])
            at = {}
            for place in net.downward():
                above = [at[mother] for mother in net.mothers(place)] + [chance.choice([-9, 0, 5])] * (place == net.root)
                step = chance.choice([0, 0, 1, 1, 1, 2, -1]) if chance.random() < 0.2 else 1
                at[place] = max(above) + (0 if len(above) == 2 and chance.random() < 0.9 else step)
            for _ in range(chance.randrange(3)):
                at[chance.choice(net.places())] = chance.randrange(-1, top)
            paper = sorted(at.items())
            wanted = slow_moment_fault(arrows, leaves, paper)
            seen[wanted and wanted[0]] = seen.get(wanted and wanted[0], 0) + 1
            self.fault(wanted, net, paper)
        self.assertEqual(set(seen), {None, "back", "gift", "late"})
        self.assertGreater(min(seen.values()), 20)

    def test_by_name(self):
        self.expect(None, moment_fault, paper=FIT, net=Net(*DOC))
        self.expect(True, is_moments, paper=FIT, net=Net(*DOC))


class Forms(Case):
    """Papers that are bent, each of which would fit otherwise."""

    def bad(self, paper, sample=DOC):
        net = Net(*sample)
        self.assertEqual(slow_moment_fault(*sample, paper), ("form", None))
        self.expect(("form", None), moment_fault, net, paper)
        self.expect(False, is_moments, net, paper)

    def test_other_kinds(self):
        for value in (None, True, False, 0, 7, "", "form", "[(0, 0)]", (), tuple(FIT), [], [[]], [()], [FIT], (FIT,)):
            self.bad(value)

    def test_items_of_other_kinds(self):
        others = [None, True, 1, "ab", "", (), [], (3,), (3, 2, 2), [3, 2], (3, "2"), ("3", 2), (None, 2), (3, None),
                  (3, (2,)), ((3,), 2), ((3, 2),), [(3, 2)], (3, [2]), ([3], 2)]
        for at in range(7):
            for item in others:
                self.bad(FIT[:at] + [item] + FIT[at + 1:])
            self.bad(FIT[:at] + [list(FIT[at])] + FIT[at + 1:])

    def test_true_and_false(self):
        # The moments 1 and 0 and the places 1 and 0.
        fit = [(0, 0), (1, 2), (2, 3), (3, 2), (4, 3), (5, 1), (6, 3)]
        self.bad([(0, False)] + fit[1:])
        self.bad(fit[:5] + [(5, True)] + fit[6:])
        self.bad([(False, 0)] + fit[1:])
        self.bad(fit[:1] + [(True, 2)] + fit[2:])

    def test_places(self):
        for at in range(7):
            self.bad(FIT[:at] + FIT[at + 1:])
            self.bad(FIT[:at] + [FIT[at]] + FIT[at:])
            self.bad(FIT[:at] + [(9, 3)] + FIT[at + 1:])
            self.bad(FIT[:at] + [(-1, 3)] + FIT[at + 1:])
            self.bad(FIT[:at] + [(BIG, 3)] + FIT[at + 1:])
        self.bad(FIT + [(7, 3)])
        self.bad([(-1, -5)] + FIT)
        # A place twice with two moments, in place of another one.
        self.bad(FIT[:6] + [(5, 3)])
        self.bad([(1, 0)] + FIT[1:])

    def test_another_order(self):
        self.bad(FIT[::-1])
        for at in range(6):
            self.bad(FIT[:at] + [FIT[at + 1], FIT[at]] + FIT[at + 2:])
        self.bad([(9, 3), (4, 0), (2, 3)], CHERRY)

    def test_long_and_deep(self):
        self.bad(FIT * 200)
        deep = ()
        for _ in range(58):
            deep = (deep,)
        self.bad(deep)
        self.bad([deep] + FIT[1:])

    def test_numbers_of_another_net(self):
        for sample in SAMPLES:
            places = places_of(*sample)
            if places != list(range(7)):
                self.bad(FIT, sample)
            self.bad([(place + 1, 0) for place in places], sample)
