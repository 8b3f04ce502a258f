"""Stuck nets and verdicts: points 26, 40 and 42 and the heading levelgifts/stuck.py."""

import random

from checks import Case, shown
from levelgifts.faults import NoRow
from levelgifts.nets import Net
from levelgifts.newick import read_newick
from levelgifts.stuck import first_moments, is_stuck, is_verdict, stuck_rest, verdict
from samples import CHERRY, DOC, KNOT, ONE_PLACE, SAMPLES, SHORT, caterpillar, greatest, random_nets, stacked
from slow_knots import inner_of, slow_greatest
from slow_moments import slow_moment_fault
from slow_rows import random_row, slow_follow, slow_least, slow_pairs
from test_moments import BENT, FIT, fitting
from test_roads import ROW, full_row, slow_moments

BIG = 10 ** 59
YES = ("yes", ROW, FIT)
NO = ("no", [], [1, 2, 7, 8, 9])
# A stuck net below which there hangs a tree, and beside which there hangs one.
MORE = (KNOT[0] + [(6, 10), (6, 11), (20, 9), (20, 21)], [(5, "b"), (10, "a"), (11, "c"), (21, "d")])
# Plain values that stand for no part of a verdict.
STRANGE = [None, True, False, 0, 1, -1, BIG, "", "yes", "no", "row", (), [None], [[]], [()], [True], [("a",)], ["ab"],
           [("b", "a", "c")], [["b", "a"]], [("b", None)], [(1, 2)], ([],), [(0, 0, 0)]]


def slow_is_verdict(arrows, leaves, paper):
    """Point 42."""
    if type(paper) is not tuple or len(paper) != 3 or paper[0] not in ("yes", "no") or type(paper[1]) is not list:
        return False
    if not all(type(pair) is tuple and [type(x) for x in pair] == [str, str] for pair in paper[1]):
        return False
    nets, at = slow_follow(arrows, leaves, paper[1])
    rest = ([(arrows, leaves)] + nets)[-1]
    if at is not None or slow_pairs(*rest):
        return False
    if paper[0] == "yes":
        return rest[0] == [] and slow_moment_fault(arrows, leaves, paper[2]) is None
    return rest[0] != [] and shown(paper[2]) == shown(inner_of(rest[0]))


class Stuck(Case):
    def test_small(self):
        for sample, wanted in ((ONE_PLACE, False), (CHERRY, False), (DOC, False), (SHORT, False), (KNOT, True),
                               (MORE, False), (stacked(2), True), (stacked(8), True), (greatest(), False)):
            self.expect(wanted, is_stuck, Net(*sample))

    def test_rests(self):
        for sample in (ONE_PLACE, CHERRY, DOC, SHORT, caterpillar(12)):
            self.expect(None, stuck_rest, Net(*sample))
        self.expect(Net(*KNOT), stuck_rest, Net(*KNOT))
        # The pair ("a", "c") takes out the leaf a and the split 6, so that c stands below the mixing 2.
        rest = Net(KNOT[0][:-1] + [(2, 11), (20, 9), (20, 21)], [(5, "b"), (11, "c"), (21, "d")])
        self.expect(rest, stuck_rest, Net(*MORE))

    def test_random_nets(self):
        seen = [0, 0, 0]
        for arrows, leaves in SAMPLES + random_nets(400, seed=91):
            net = Net(arrows, leaves)
            stuck = slow_pairs(arrows, leaves) == [] and arrows != []
            self.expect(stuck, is_stuck, net)
            rest = slow_least(arrows, leaves)[1]
            found = self.call(stuck_rest, net)
            if rest[0] == []:
                self.assertIsNone(found)
            else:
                self.assertEqual((found.arrows(), found.leaves()), rest)
                self.assertTrue(is_stuck(found))
            seen[1 + stuck if found else 0] += 1
        self.assertGreater(min(seen), 20)

    def test_by_name(self):
        self.expect(True, is_stuck, net=Net(*KNOT))
        self.expect(None, stuck_rest, net=Net(*DOC))


class FirstMoments(Case):
    def test_small(self):
        self.expect(FIT, first_moments, Net(*DOC))
        self.expect([(7, 0)], first_moments, Net(*ONE_PLACE))
        self.expect([(2, 1), (4, 0), (9, 1)], first_moments, Net(*CHERRY))
        self.expect(FIT, first_moments, net=Net(*DOC))

    def test_no_row(self):
        self.refuses(NoRow, {"knot": [1, 2, 7, 8, 9]}, first_moments, Net(*KNOT))
        self.refuses(NoRow, {"knot": [1, 2, 7, 8, 9, 20]}, first_moments, Net(*MORE))
        self.refuses(NoRow, {"knot": [0, 1, 2, 4, 6]}, first_moments, read_newick("(((a)#1,(b)#2),(#1,#2));"))
        self.refuses(NoRow, {"knot": list(range(16))}, first_moments, Net(*greatest()))

    def test_random_nets(self):
        for arrows, leaves in SAMPLES + random_nets(300, seed=92):
            net = Net(arrows, leaves)
            row, rest = slow_least(arrows, leaves)
            if rest[0]:
                self.refuses(NoRow, {"knot": inner_of(rest[0])}, first_moments, net)
            else:
                self.expect(slow_moments(arrows, leaves, row), first_moments, net)


class Verdicts(Case):
    def test_the_examples(self):
        self.expect(("no", [], [0, 1, 2, 4, 6]), verdict, read_newick("(((a)#1,(b)#2),(#1,#2));"))
        self.expect(("yes", [], [(0, 0)]), verdict, read_newick("a;"))

    def test_small(self):
        self.expect(YES, verdict, Net(*DOC))
        self.expect(NO, verdict, Net(*KNOT))
        self.expect(("no", [("a", "c")], [1, 2, 7, 8, 9, 20]), verdict, Net(*MORE))
        self.expect(YES, verdict, net=Net(*DOC))

    def test_random_nets(self):
        words = {"yes": 0, "no": 0}
        for arrows, leaves in SAMPLES + random_nets(400, seed=93):
            net = Net(arrows, leaves)
            found = self.call(verdict, net)
            row, rest = slow_least(arrows, leaves)
            words[found[0]] += 1
            self.expect(True, is_verdict, net, found)
            if rest[0]:
                self.assertEqual(shown(found), shown(("no", row, inner_of(rest[0]))))
                if len(inner_of(arrows)) < 9:
                    self.assertEqual(found[2], slow_greatest(arrows, inner_of(arrows)))
            else:
                self.assertEqual(shown(found), shown(("yes", row, slow_moments(arrows, leaves, row))))
        self.assertGreater(min(words.values()), 50)

    def test_equal_calls_behind_others(self):
        nets = [Net(*sample) for sample in SAMPLES]
        before = shown([verdict(net) for net in nets])
        for net in nets:
            for part in verdict(net)[1:]:
                part.clear()
            is_verdict(net, YES)
        self.assertEqual(shown([verdict(net) for net in nets]), before)


class Judge(Case):
    def test_other_right_papers(self):
        net = Net(*DOC)
        other = [(0, -5), (1, 1), (2, 9), (3, 2), (4, 3), (5, 2), (6, 3)]
        for row in (ROW, [("b", "c"), ("b", "a"), ("c", "a")], [("b", "a"), ("c", "b"), ("b", "a")]):
            for moments in (FIT, other):
                self.expect(True, is_verdict, net, ("yes", row, moments))
        net = Net(*MORE)
        for row in ([("a", "c")], [("c", "a")]):
            self.expect(True, is_verdict, net, ("no", row, [1, 2, 7, 8, 9, 20]))

    def test_the_wrong_word(self):
        for sample, (_, row, shows) in ((DOC, YES), (KNOT, NO), (ONE_PLACE, ("yes", [], [(7, 0)]))):
            for word in STRANGE + ["Yes", "yes ", "maybe", ("yes",), ["no"], "ye", "yesyes"]:
                wanted = word == verdict(Net(*sample))[0]
                self.expect(wanted, is_verdict, Net(*sample), (word, row, shows))
        self.expect(False, is_verdict, Net(*ONE_PLACE), ("no", [], []))

    def test_the_wrong_row(self):
        net = Net(*DOC)
        for row in STRANGE + [[], ROW[:2], ROW[1:], ROW[::-1], ROW + ROW[:1], tuple(ROW), [list(pair) for pair in ROW],
                              ROW[:2] + [("a", "c", "b")], ROW[:2] + [("a", "z")], ROW[:2] + [None], ROW * 100]:
            self.expect(False, is_verdict, net, ("yes", row, FIT))
            self.expect(False, is_verdict, net, ("no", row, FIT))
            self.expect(False, is_verdict, net, ("no", row, []))
        for row in STRANGE + [(), [("a", "b")], [("a", "a")], None]:
            self.expect(False, is_verdict, Net(*KNOT), ("no", row, NO[2]))
        for row in ([], [("a", "b")], [("a", "c"), ("a", "c")], [("a", "c"), ("d", "c")]):
            self.expect(False, is_verdict, Net(*MORE), ("no", row, [1, 2, 7, 8, 9, 20]))

    def test_the_wrong_moments(self):
        for paper, _ in BENT:
            self.expect(False, is_verdict, Net(*DOC), ("yes", ROW, paper))
        for paper in STRANGE:
            self.expect(False, is_verdict, Net(*DOC), ("yes", ROW, paper))
            self.expect(False, is_verdict, Net(*ONE_PLACE), ("yes", [], paper))
        self.expect(False, is_verdict, Net(*ONE_PLACE), ("yes", [], [(7, True)]))
        self.expect(True, is_verdict, Net(*ONE_PLACE), ("yes", [], [(7, -BIG)]))

    def test_the_wrong_knot(self):
        knot = NO[2]
        for paper in STRANGE + [[], knot[1:], knot[:-1], knot[::-1], knot + [9], knot * 2, tuple(knot), [1, 2], knot + [10],
                                [True] + knot[1:], [(1,)] + knot[1:], [str(place) for place in knot], [knot], FIT]:
            self.expect(False, is_verdict, Net(*KNOT), ("no", [], paper))
        net = Net([(9, 8), (9, 7), (8, 1), (8, 0), (7, 1), (7, 0), (1, 5), (0, 6)], [(5, "b"), (6, "a")])
        self.expect(True, is_verdict, net, ("no", [], [0, 1, 7, 8, 9]))
        for paper in ([False, 1, 7, 8, 9], [0, True, 7, 8, 9], [0, 1, 7, 8, "9"]):
            self.expect(False, is_verdict, net, ("no", [], paper))

    def test_other_kinds(self):
        for paper in STRANGE + [list(YES), list(NO), YES[:2], NO[:2], YES + (None,), NO + ([],), (YES,), [NO], YES[1:],
                                (YES[0], YES[2], YES[1]), ("no", [], []), ("yes", [], [])]:
            self.expect(False, is_verdict, Net(*DOC), paper)
            self.expect(False, is_verdict, Net(*KNOT), paper)
        deep = YES
        for _ in range(55):
            deep = (deep, [], [])
        self.expect(False, is_verdict, Net(*DOC), deep)

    def test_random_papers(self):
        chance, counts = random.Random(94), {True: 0, False: 0}
        for arrows, leaves in SAMPLES + random_nets(300, seed=94):
            net = Net(arrows, leaves)
            moments = fitting(chance, arrows, leaves)
            if moments is None:
                row = random_row(chance, arrows, leaves)
                paper = ["no", row, verdict(net)[2]]
            else:
                paper = ["yes", full_row(chance, arrows, leaves), moments]
            part = chance.choice(paper[1:])
            if part and chance.random() < 0.6:
                at = chance.randrange(len(part))
                part[at] = chance.choice(part + [(0, 0), 3, ("a", "b")])
            paper = tuple(paper)
            wanted = slow_is_verdict(arrows, leaves, paper)
            self.expect(wanted, is_verdict, net, paper)
            counts[wanted] += 1
        self.assertGreater(min(counts.values()), 50)

    def test_by_name(self):
        self.expect(True, is_verdict, paper=YES, net=Net(*DOC))
        self.expect(True, is_verdict, paper=NO, net=Net(*KNOT))
