"""Papers about a net, each told by a word, and their judges."""

from levelgifts.faults import BadValue
from levelgifts.knots import is_knot
from levelgifts.momentjudge import is_moments
from levelgifts.pluck import is_row
from levelgifts.profiles import is_profile_of, profile
from levelgifts.stuck import is_verdict, verdict
from levelgifts.treebased import find_crowd, find_support, is_choice, is_crowd, is_support

WORDS = ("row", "moments", "knot", "verdict", "support", "crowd", "choice", "profile")


def is_paper(word, net, paper):
    """Whether the paper is one of the net of the kind that the word tells."""
    if word not in WORDS:
        raise BadValue(word)
    judge = _judge_of(word)
    return judge(net, paper)


def papers_for(net):
    """The papers of the net that the package finds, each with its word."""
    answer, row, shown = verdict(net)
    found = [("verdict", (answer, list(row), list(shown)))]
    if answer == "yes":
        found.extend([("row", row), ("moments", shown)])
    else:
        found.append(("knot", shown))
    support = find_support(net)
    found.append(("crowd", find_crowd(net)) if support is None else ("support", support))
    return found + [("profile", profile(net))]


def judge_all(net, papers):
    """For each item of the list, whether it is a word with a right paper."""
    return [_is_told_paper(net, item) for item in papers]


def _judge_of(word):
    """The judge of the papers of the word."""
    judges = {
        "row": is_row,
        "moments": is_moments,
        "knot": is_knot,
        "verdict": is_verdict,
        "support": is_support,
        "crowd": is_crowd,
        "choice": is_choice,
        "profile": is_profile_of,
    }
    return judges[word]


def _is_told_paper(net, item):
    """Whether the plain value is a pair of a word and a right paper."""
    if not isinstance(item, tuple) or len(item) != 2 or item[0] not in WORDS:
        return False
    return is_paper(item[0], net, item[1])
