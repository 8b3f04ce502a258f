"""Papers of several kinds: points 82 and 83 and the heading levelgifts/judge.py."""

import random

from checks import Case, shown
from levelgifts.faults import BadValue
from levelgifts.judge import is_paper, judge_all, papers_for
from levelgifts.knots import greatest_knot, is_knot
from levelgifts.momentjudge import is_moments
from levelgifts.nets import Net
from levelgifts.pluck import all_rows, is_row, least_row
from levelgifts.profiles import is_profile_of, profile
from levelgifts.roads import moments_of_row
from levelgifts.stuck import is_verdict, verdict
from levelgifts.treebased import find_crowd, find_support, is_choice, is_crowd, is_support
from samples import CHERRY, DOC, KNOT, ONE_PLACE, SAMPLES, random_nets
from slow_kinds import slow_choices
from slow_rows import slow_least
from test_moments import FIT
from test_treebased import HIGHER, TOWER, chain_crowd

BIG = 10 ** 59
WORDS = ["row", "moments", "knot", "verdict", "support", "crowd", "choice", "profile"]
JUDGES = dict(zip(WORDS, [is_row, is_moments, is_knot, is_verdict, is_support, is_crowd, is_choice, is_profile_of]))
NO_WORDS = [None, True, False, 0, 1, BIG, "", "Row", "row ", "rows", "tree", "pair", "order", "history", "floor", (), [], ("row",),
            ["row"], [["knot"]], ("knot", "knot"), ("row", 1), [True], "x" * 4000, "moments\n"]
ROW = [("b", "a"), ("b", "c"), ("a", "c")]
PROFILE = (["a", "b", "c"], [(0, 1, 0), (0, 1, 1), (1, 1, 0), (1, 2, 1)])
NETS = SAMPLES + [TOWER, HIGHER, chain_crowd(1), chain_crowd(2)]
STRANGE = [None, True, 0, "", "row", (), [], [()], [[]], [None], [("a", "b")], [(0, 0)], ("yes", [], []), ("no", [], [])]


def bent(paper):
    """Papers that are not quite the paper."""
    found = [None, True, [paper], (paper,)]
    if type(paper) is list:
        found += [paper + paper[-1:], paper[1:], paper[::-1] if len(paper) > 1 else [1], tuple(paper), [list(paper)]]
    if type(paper) is tuple:
        found += [list(paper), paper + (None,), paper[1:], (paper[0], *paper[1:][::-1])]
    return found


class Papers(Case):
    def test_each_word_with_right_papers(self):
        net = Net(*DOC)
        for word, paper in (("row", ROW), ("row", [("b", "c"), ("a", "b"), ("c", "b")]), ("moments", FIT), ("verdict", ("yes", ROW, FIT)),
                            ("support", [(3, 1)]), ("support", [(3, 5)]), ("choice", [(3, 1)]), ("choice", [(3, 5)]),
                            ("profile", PROFILE)):
            self.expect(True, is_paper, word, net, paper)
        for word, paper in (("knot", [2, 4]), ("knot", [0, 1, 2, 4, 6]), ("verdict", ("no", [], [0, 1, 2, 4, 6]))):
            net = Net([(0, 1), (0, 6), (1, 2), (1, 4), (2, 3), (4, 5), (6, 2), (6, 4)], [(3, "a"), (5, "b")])
            self.expect(True, is_paper, word, net, paper)
            self.expect(False, is_paper, "crowd", net, paper)
        self.expect(True, is_paper, "crowd", Net(*TOWER), [3, 4])
        self.expect(True, is_paper, paper=[], net=Net(*ONE_PLACE), word="row")

    def test_right_papers_of_another_word(self):
        net = Net(*DOC)
        papers = {"row": ROW, "moments": FIT, "verdict": ("yes", ROW, FIT), "choice": [(3, 1)], "profile": PROFILE}
        for word in WORDS:
            for other, paper in papers.items():
                wanted = word == other or word == "support" and other == "choice"
                self.expect(wanted, is_paper, word, net, paper)

    def test_the_choice_that_is_no_support(self):
        net = Net(*KNOT)
        for paper in slow_choices(KNOT[0]):
            self.expect(True, is_paper, "choice", net, paper)
            self.expect(is_support(net, paper), is_paper, "support", net, paper)
        self.assertEqual({is_support(net, paper) for paper in slow_choices(KNOT[0])}, {True, False})

    def test_bent_papers(self):
        for sample in NETS:
            net = Net(*sample)
            for word, paper in papers_for(net):
                self.expect(True, is_paper, word, net, paper)
                for other in bent(paper) + STRANGE:
                    for each in WORDS:
                        self.expect(JUDGES[each](net, other), is_paper, each, net, other)

    def test_the_profile_is_that_of_the_net(self):
        self.expect(True, is_paper, "profile", Net(*CHERRY), profile(Net(*CHERRY)))
        self.expect(False, is_paper, "profile", Net(*DOC), profile(Net(*CHERRY)))
        # Also that of a net that cannot be plucked down.
        self.expect(True, is_paper, "profile", Net(*KNOT), profile(Net(*KNOT)))

    def test_bad_words(self):
        for word in NO_WORDS:
            for paper in (None, ROW, [], FIT, PROFILE):
                self.refuses(BadValue, {"bad": word}, is_paper, word, Net(*DOC), paper)


class PapersFor(Case):
    def test_small(self):
        moments = moments_of_row(Net(*DOC), ROW)
        wanted = [("verdict", ("yes", ROW, moments)), ("row", ROW), ("moments", moments), ("support", find_support(Net(*DOC))),
                  ("profile", PROFILE)]
        self.expect(wanted, papers_for, Net(*DOC))
        wanted = [("verdict", ("yes", [], [(7, 0)])), ("row", []), ("moments", [(7, 0)]), ("support", []), ("profile", (["a"], []))]
        self.expect(wanted, papers_for, net=Net(*ONE_PLACE))
        self.assertEqual([word for word, paper in papers_for(Net(*KNOT))], ["verdict", "knot", "support", "profile"])
        self.assertEqual([word for word, paper in papers_for(Net(*TOWER))], ["verdict", "knot", "crowd", "profile"])

    def test_all_nets(self):
        kinds = {}
        for arrows, leaves in NETS + random_nets(250, seed=271):
            net = Net(arrows, leaves)
            found = self.call(papers_for, net)
            row, (left, _) = slow_least(arrows, leaves)
            wanted = [("verdict", verdict(net))]
            if not left:
                wanted += [("row", least_row(net)[0]), ("moments", moments_of_row(net, row))]
            else:
                wanted += [("knot", greatest_knot(net))]
            wanted += [("support", find_support(net))] if find_support(net) is not None else [("crowd", find_crowd(net))]
            self.assertEqual(shown(found), shown(wanted + [("profile", profile(net))]))
            self.assertEqual(self.call(judge_all, net, found), [True] * len(found))
            words = tuple(word for word, paper in found)
            kinds[words] = kinds.get(words, 0) + 1
        self.assertEqual(len(kinds), 3)


class All(Case):
    def test_items_of_any_kind(self):
        net = Net(*DOC)
        papers = [("row", ROW), ["row", ROW], ("row", ROW, None), ("row",), (), None, True, 0, "row", "ro", ("Row", ROW), ([], ROW),
                  (True, ROW), (("row", ROW),), ("moments", FIT), ("moments", None), ("knot", []), ("crowd", []), ("choice", [(3, 1)]),
                  ("profile", PROFILE), ("profile", list(PROFILE)), (None, None), ("verdict", ("yes", ROW, FIT)), [], [("row", ROW)],
                  (ROW, "row"), ("support", [(3, 5)])]
        wanted = [True] + [False] * 13 + [True] + [False] * 3 + [True, True, False, False, True, False, False, False, True]
        self.assertEqual(shown(judge_all(net, papers)), shown(wanted))
        self.assertEqual(shown(judge_all(net=net, papers=papers)), shown(wanted))
        self.expect([], judge_all, net, [])

    def test_as_is_paper(self):
        chance = random.Random(272)
        for arrows, leaves in NETS + random_nets(60, seed=272):
            net, papers = Net(arrows, leaves), []
            for word, paper in papers_for(net):
                papers += [(other, paper) for other in WORDS] + [(word, other) for other in bent(paper)]
            papers += [(word, paper) for word in NO_WORDS[:9] for paper in (None, [])]
            chance.shuffle(papers)
            wanted = [item[0] in WORDS and JUDGES[item[0]](net, item[1]) for item in papers]
            self.assertEqual(shown(judge_all(net, papers)), shown(wanted))

    def test_other_rows_and_moments(self):
        net = Net(*DOC)
        rows = all_rows(net, limit=60)
        papers = [("row", row) for row in rows] + [("moments", moments_of_row(net, row)) for row in rows]
        papers += [("verdict", ("yes", row, moments_of_row(net, rows[0]))) for row in rows]
        self.assertEqual(judge_all(net, papers), [True] * 24)

    def test_nothing_is_changed(self):
        net = Net(*DOC)
        papers = [("row", list(ROW)), ("moments", list(FIT)), ([], [])]
        before = shown(papers)
        answer = judge_all(net, papers)
        answer.clear()
        self.assertEqual(judge_all(net, papers), [True, True, False])
        self.assertEqual(shown(papers), before)
        self.assertEqual((net.arrows(), net.leaves()), DOC)
