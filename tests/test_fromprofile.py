"""Rows and nets read back from profiles: points 47 and 48 and the heading levelgifts/fromprofile.py."""

import random

from checks import Case, shown
from levelgifts.faults import BadPaper
from levelgifts.fromprofile import net_from_profile, row_from_profile
from levelgifts.nets import Net
from levelgifts.newick import read_newick
from levelgifts.pluck import build, least_row, put_back
from levelgifts.profiles import profile
from levelgifts.stuck import alike
from samples import CHERRY, DOC, KNOT, ONE_PLACE, SAMPLES, SHORT, STACK, caterpillar, greatest, random_nets, stacked
from slow_profiles import slow_profile, slow_stack_free, slow_steps
from slow_rows import slow_least, slow_put_back
from test_profiles import BIG, PAPER, STRANGE, bent
from test_roads import ROW


def is_readable(arrows, leaves):
    """Whether the net is stack free and can be plucked down."""
    return slow_stack_free(arrows) and slow_least(arrows, leaves)[1][0] == []


class Read(Case):
    def check(self, arrows, leaves):
        paper = slow_profile(arrows, leaves)
        row, rest = slow_least(arrows, leaves)
        self.expect(row, row_from_profile, paper)
        net = self.call(net_from_profile, paper)
        self.assertEqual(shown(net), shown(build(row, last=rest[1][0][1])))
        self.assertEqual(profile(net), paper)
        self.assertTrue(alike(net, Net(arrows, leaves)))

    def refused(self, paper):
        for function in (row_from_profile, net_from_profile):
            self.refuses(BadPaper, {"word": "profile"}, function, paper)

    def test_small(self):
        self.expect(ROW, row_from_profile, PAPER)
        self.expect(build(ROW, last="c"), net_from_profile, PAPER)
        self.expect([], row_from_profile, (["a"], []))
        self.expect(Net([], [(0, "a")]), net_from_profile, (["a"], []))
        self.expect([("x1", "x2")], row_from_profile, (["x1", "x2"], [(1, 1)]))
        self.expect([("x", "y1"), ("x", "y1")], row_from_profile, (["x", "y1"], [(1, 0), (1, 1), (2, 1)]))

    def test_by_name(self):
        self.expect(ROW, row_from_profile, paper=PAPER)
        self.expect(Net([], [(0, "a")]), net_from_profile, paper=(["a"], []))

    def test_samples(self):
        for sample in (ONE_PLACE, CHERRY, DOC, SHORT, caterpillar(12)):
            self.check(*sample)

    def test_random_nets(self):
        mixed = 0
        for arrows, leaves in random_nets(500, seed=121):
            if is_readable(arrows, leaves):
                self.check(arrows, leaves)
                mixed += len(Net(arrows, leaves).mixings()) > 1
        self.assertGreater(mixed, 40)

    def test_great_nets(self):
        chance, great = random.Random(122), 0
        for _ in range(40):
            net = Net(*caterpillar(12))
            for _ in range(8):
                net = put_back(net, tuple(chance.sample(net.names(), 2)))
            if is_readable(net.arrows(), net.leaves()):
                self.check(net.arrows(), net.leaves())
                great += 1
        self.assertGreater(great, 2)

    def test_equal_calls_behind_others(self):
        for _ in range(3):
            self.assertEqual(row_from_profile(PAPER), ROW)
            self.assertEqual(net_from_profile(PAPER), build(ROW, last="c"))
            row_from_profile(PAPER).clear()
            net_from_profile((["a", "b"], [(1, 1)]))

    def test_nets_that_are_not_stack_free(self):
        # The first ones can be plucked down, and their steps come down to one name and no row.
        through = 0
        for arrows, leaves in [STACK, stacked(2), stacked(8), greatest()] + random_nets(500, seed=123):
            if not slow_stack_free(arrows):
                paper = slow_profile(arrows, leaves)
                row, names, rows = slow_steps(paper)
                through += len(names) == 1 and not rows
                self.refused(paper)
        self.assertGreater(through, 10)

    def test_nets_that_cannot_be_plucked_down(self):
        for arrows, leaves in [KNOT] + random_nets(300, seed=124):
            if slow_least(arrows, leaves)[1][0]:
                self.refused(slow_profile(arrows, leaves))

    def test_other_kinds(self):
        for paper in STRANGE + [([], []), (["a", "b"], []), (["a"], [(1,)]), (["a"], [(0,)]), (["a"], [()]), ([], [()])]:
            self.refused(paper)
        deep = PAPER
        for _ in range(56):
            deep = (deep, [])
        self.refused(deep)
        self.refused((["a", "b", "c"], [deep]))
        self.refused(([deep], [(1,)]))

    def test_bent_papers(self):
        readable = [slow_profile(*sample) for sample in random_nets(100, seed=125) if is_readable(*sample)]
        right = [shown(paper) for paper in readable]
        for paper in [slow_profile(*sample) for sample in (ONE_PLACE, CHERRY, DOC, SHORT)] + readable[:6]:
            for other in bent(paper):
                if shown(other) not in right and not self.is_profile(other):
                    self.refused(other)

    def is_profile(self, paper):
        """Whether the paper is the profile of the net that its steps build, read slowly."""
        try:
            row, names, rows = slow_steps(paper)
            net = build(row, last=names[0])
        except Exception:
            return False
        return shown(slow_profile(net.arrows(), net.leaves())) == shown(paper) and slow_stack_free(net.arrows())

    def test_names(self):
        for bad in ("", "A", "1a", "abcdefghi", "a b", "~", "a\n", "x" * 4000):
            self.refused(([bad], []))
            self.refused((sorted(["a", bad]), [(1, 1)]))
        self.refused((["a", "a"], [(1, 1)]))
        self.refused((["b", "a"], [(1, 1)]))
        self.refused((["a", "b", "a"], [(0, 1, 1), (1, 1, 1)]))

    def test_steps_that_can_be_carried_out(self):
        # The rows are those of a net, in another order or of another kind, or with counts that no net has.
        names, rows = PAPER
        for other in (rows[::-1], rows[1:] + rows[:1], [(False, 1, 0)] + rows[1:], [(0, True, 0)] + rows[1:]):
            self.assertEqual(slow_steps((names, other))[0], ROW)
            self.refused((names, other))
        through = 0
        chance = random.Random(126)
        for _ in range(3000):
            names = ["a", "b", "c"][:chance.randrange(2, 4)]
            rows = sorted(tuple(chance.choice([0, 1, 1, 2]) for name in names) for _ in range(chance.randrange(1, 6)))
            found, left, others = slow_steps((names, rows))
            if len(left) == 1 and not others and not self.is_profile((names, rows)):
                through += 1
                self.refused((names, rows))
        self.assertGreater(through, 10)

    def test_beyond_the_bounds(self):
        arrows, leaves = caterpillar(13)
        self.assertEqual(len(slow_steps(slow_profile(arrows, leaves))[0]), 12)
        self.refused(slow_profile(arrows, leaves))
        self.refused(slow_profile(*caterpillar(20)))
        # Nine mixings, each of which stands above a leaf of its own.
        arrows, leaves = caterpillar(12)
        for k in range(9):
            arrows, leaves = slow_put_back(arrows, leaves, (f"n{k}", "n11"))
            if k == 7:
                self.check(arrows, leaves)
        self.assertTrue(slow_stack_free(arrows))
        self.assertEqual(len(slow_steps(slow_profile(arrows, leaves))[1]), 1)
        self.refused(slow_profile(arrows, leaves))

    def test_long_papers(self):
        names = ["a", "b"]
        for rows in ([(1, 1)] * 900, [(1, 0)] * 450 + [(1, 1)] * 450, [(0, 1)] * 500 + [(1, 1)] * 400, [(BIG, -BIG)] * 900):
            self.refused((names, sorted(rows)))
        self.refused((["a"], [(1,)] * 1400))
        self.refused(([f"a{k}" for k in range(40)], [tuple([1] * 40)] * 60))
        self.refused((["a"] * 2000, []))
        self.refused(([], [()] * 2000))

    def test_least_rows_of_nets_with_holes(self):
        net = read_newick("(((b,(c)#1),(d,(#1,e))),a);")
        self.expect(least_row(net)[0], row_from_profile, profile(net))
