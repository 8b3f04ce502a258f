"""Scripts: lines of commands to a keeper, and the report of what they do."""

from levelgifts.faults import LevelError, TooMany
from levelgifts.keep import Keeper
from levelgifts.kinds import kinds_of, level
from levelgifts.knots import greatest_knot
from levelgifts.newick import read_newick, write_newick
from levelgifts.pairs import pairs
from levelgifts.pluck import can_be_plucked, least_row
from levelgifts.shown import count_shown
from levelgifts.stuck import verdict

MOST_LINES = 20
LONGEST_NUMBER = 4


def _paired_words(word, found):
    """The word and the pairs of names."""
    return " ".join([word] + [f"{plucked}-{stays}" for plucked, stays in found])


def _shown_text(net):
    """The written net."""
    return write_newick(net)


def _told_pairs(net):
    """The pairs that can be plucked."""
    return _paired_words("pairs", pairs(net))


def _told_row(net):
    """The least row."""
    return _paired_words("row", least_row(net)[0])


def _told_verdict(net):
    """Whether the net can be plucked down."""
    return "yes" if can_be_plucked(net) else "no"


def _told_moments(net):
    """The moments of the verdict, if it has some."""
    answer, _, shown = verdict(net)
    if answer == "no":
        return "none"
    return " ".join(["moments"] + [f"{place}:{moment}" for place, moment in shown])


def _told_knot(net):
    """The greatest knot."""
    return " ".join(["knot"] + [str(place) for place in greatest_knot(net)])


def _told_kinds(net):
    """The kinds of the net."""
    kinds = kinds_of(net)
    return "kinds " + ", ".join(kinds) if kinds else "kinds"


def _told_level(net):
    """The level of the net."""
    return f"level {level(net)}"


def _told_trees(net):
    """The numbers of trees and of choices."""
    different, all_choices = count_shown(net)
    return f"trees {different} {all_choices}"


# The commands that report of the net.
REPORTERS = {
    "show": _shown_text,
    "pairs": _told_pairs,
    "row": _told_row,
    "verdict": _told_verdict,
    "moments": _told_moments,
    "knot": _told_knot,
    "kinds": _told_kinds,
    "level": _told_level,
    "trees": _told_trees,
}
# The commands that are edits, with the numbers of names and of places that may stand behind them.
EDITS = {
    "hang": ((1, 0), (1, 2)),
    "drop": ((1, 0),),
    "tie": ((0, 4),),
    "cut": ((0, 2),),
    "pluck": ((2, 0),),
}


def run_script(text):
    """The report of the script."""
    return _run(text)[0]


def end_net(text):
    """The net that is there at the end of the script, or None."""
    keeper = _run(text)[1]
    return None if keeper is None else keeper.net


def _run(text):
    """The report of the script, and the keeper at its end or None."""
    lines = text.split("\n")
    if len(lines) > MOST_LINES:
        raise TooMany("lines", len(lines))
    report = []
    keeper = None
    for line in lines:
        if line.strip(" "):
            told, keeper = _done_line(keeper, line.strip(" "))
            report.append(told)
    return report, keeper


def _done_line(keeper, line):
    """What the line reports, and the keeper behind it."""
    word, *given = [part for part in line.split(" ") if part]
    if not _has_form(word, given):
        return "error form", keeper
    if word != "net" and keeper is None:
        return "error none", keeper
    try:
        if word == "net":
            net = read_newick(line[len(word):].strip(" "))
            return f"net {len(net.leaves())} {len(net.mixings())}", Keeper(net)
        return _done_command(keeper, word, given), keeper
    except LevelError as error:
        return f"error {error.__class__.__name__}", keeper


def _has_form(word, given):
    """Whether the word is a command, and the words behind it are as many and such as it takes."""
    if word == "net":
        return len(given) > 0
    if word in REPORTERS or word == "undo":
        return not given
    for names, places in EDITS.get(word, ()):
        if len(given) == names + places:
            return all([_is_place_word(part) for part in given[names:]])
    return False


def _is_place_word(word):
    """Whether the word is the decimal form of a place."""
    return len(word) <= LONGEST_NUMBER and word.isdigit() and str(int(word)) == word


def _done_command(keeper, word, given):
    """What the command reports, when it is done."""
    if word in REPORTERS:
        reporter = REPORTERS[word]
        return reporter(keeper.net)
    if word == "undo":
        return "done" if keeper.undo() else "nothing"
    keeper.apply(_told_edit(word, given))
    return "done"


def _told_edit(word, given):
    """The edit that the line tells."""
    names = EDITS[word][0][0]
    ends = [int(part) for part in given[names:]]
    arrows = [(ends[at], ends[at + 1]) for at in range(0, len(ends), 2)]
    if word == "hang" and not arrows:
        arrows = [None]
    return (word, *given[:names], *arrows)
