"""Verdicts: a full row and fitting moments, or a row to a stuck rest and a knot. And the likeness of two nets."""

from levelgifts.faults import NoRow, TooMany
from levelgifts.knots import greatest_knot
from levelgifts.momentjudge import is_moments
from levelgifts.nets import is_match
from levelgifts.pairs import pair_places, pairs
from levelgifts.pluck import is_one_place, is_row, least_row, pluck, rest_of_paper
from levelgifts.roads import moments_of_row
from levelgifts.shape import same_value

MOST_SPLITS = 9


def is_stuck(net):
    """Whether no pair can be plucked and the net is not a one-place net."""
    return not pairs(net) and not is_one_place(net)


def stuck_rest(net):
    """The rest of the least row if it is stuck, otherwise None."""
    rest = least_row(net)[1]
    return None if is_one_place(rest) else rest


def first_moments(net):
    """The moments of the least row."""
    word, row, shown = verdict(net)
    if word == "no":
        raise NoRow(shown)
    return shown


def verdict(net):
    """The word "yes" with the least row and its moments, or "no" with the least row and the greatest knot."""
    row, rest = least_row(net)
    if is_one_place(rest):
        return "yes", row, moments_of_row(net, row)
    return "no", row, greatest_knot(net)


def is_verdict(net, paper):
    """Whether the paper is a verdict of the net."""
    if not isinstance(paper, tuple) or len(paper) != 3:
        return False
    word, row, shown = paper
    if word == "yes":
        return is_row(net, row) and is_moments(net, shown)
    if word == "no":
        return _is_stuck_row(net, row, shown)
    return False


def _is_stuck_row(net, row, knot):
    """Whether the plain values are a row to a stuck rest and the inner places of that rest."""
    rest = rest_of_paper(net, row)
    return rest is not None and is_stuck(rest) and same_value(knot, rest.inner())


def find_match(first, second):
    """A match of the first net with the second one, or None."""
    row, rest = least_row(first)
    second_row, second_rest = least_row(second)
    for left in (rest, second_rest):
        many = len(left.splits())
        if many > MOST_SPLITS:
            raise TooMany("splits", many)
    if row != second_row:
        return None
    found = _rest_match(rest, second_rest, {}, [(rest.root, second_rest.root)])
    if found is None:
        return None
    return _grown_match(first, second, row, found)


def alike(first, second):
    """Whether the two nets are alike."""
    return find_match(first, second) is not None


def _rest_match(first, second, matched, waiting):
    """A match that matches the waiting pairs of places and goes on from those that are matched, or None."""
    if not waiting:
        paper = sorted([(place, matched[place]) for place in matched])
        return paper if is_match(first, second, paper) else None
    (place, other), *later = waiting
    if place in matched and matched[place] != other:
        return None
    if first.kind_of(place) != second.kind_of(other) or first.name_of(place) != second.name_of(other):
        return None
    for children in _orders(second.children(other)):
        below = [] if place in matched else list(zip(first.children(place), children))
        found = _rest_match(first, second, {**matched, place: other}, below + later)
        if found is not None:
            return found
    return None


def _orders(children):
    """The orders in which the children may be matched."""
    return [children, children[::-1]] if len(children) == 2 else [children]


def _grown_match(first, second, row, match):
    """The match of the nets that a match of the two rests of the row grows to."""
    found = list(match)
    for pair in row:
        found.extend(list(zip(pair_places(first, pair), pair_places(second, pair))))
        plucked = (first.place_of(pair[0]), second.place_of(pair[0]))
        first, second = pluck(first, pair), pluck(second, pair)
        if pair[0] not in first:
            found.append(plucked)
    return sorted(found)
