"""Drawings of nets with moments: orders of the leaves, crossings of gifts, and layers of lines."""

from levelgifts.faults import BadValue, TooMany
from levelgifts.momentjudge import times_of
from levelgifts.moments import gifts, live_at, tree_arrows

MOST_LEAVES = 7


def is_order(net, moments, paper):
    """Whether the paper is all names, each once, with those of the tree leaves of each place beside one another."""
    return _has_order(net, _leaves_below(net, moments), paper)


def all_orders(net, moments):
    """The ascending list of all orders."""
    arrows = tree_arrows(net, moments)
    many = len(net.names())
    if many > MOST_LEAVES:
        raise TooMany("leaves", many)
    return sorted(_orders_below(net, arrows, net.root))


def best_order(net, moments):
    """The first order in ascending order of those with the fewest crossings."""
    return min(all_orders(net, moments), key=lambda order: crossings(net, moments, order))


def crossings(net, moments, order):
    """The number of lines that stand between the two lines of a gift, for all gifts together."""
    found = layers(net, moments, order)
    times = times_of(net, moments)
    total = 0
    for giver, mixing in gifts(net, moments):
        for moment, lines in found:
            # The two lines may live together ahead of the gift too.
            if moment == times[giver]:
                total += abs(lines.index(giver) - lines.index(mixing)) - 1
    return total


def layers(net, moments, order):
    """For each moment of an inner place, ascending, the lower ends of the lines that live then from left to right."""
    firsts = _first_indexes(net, moments, order)
    times = times_of(net, moments)
    different = sorted(set([times[place] for place in net.inner()]))
    return [(moment, _from_left(live_at(net, moments, moment), firsts)) for moment in different]


def draw(net, moments, order):
    """The strings of the drawing: one for each layer, and the names."""
    firsts = _first_indexes(net, moments, order)
    times = times_of(net, moments)
    given = gifts(net, moments)
    signs = _end_signs(net, given)
    drawn = []
    for moment, lines in layers(net, moments, order):
        row = [" "] * (2 * len(order) - 1)
        for giver, mixing in given:
            if times[giver] == moment:
                low, high = sorted([2 * firsts[giver], 2 * firsts[mixing]])
                row[low:high] = ["-"] * (high - low)
        # The signs of lines go over those of gifts.
        for place in lines:
            row[2 * firsts[place]] = "|" if times[place] > moment else signs[place]
        drawn.append("".join(row))
    return drawn + [" ".join(order)]


def _leaves_below(net, moments):
    """The names of the tree leaves of each place, in a dict."""
    arrows = tree_arrows(net, moments)
    found = {}
    for place in reversed(net.downward()):
        names = [name for mother, child in arrows if mother == place for name in found[child]]
        found[place] = names if names else [net.name_of(place)]
    return found


def _has_order(net, below, paper):
    """Whether the plain value is all names, each once, in which the names below each place stand beside one another."""
    if not isinstance(paper, list) or not all([isinstance(name, str) for name in paper]):
        return False
    if sorted(paper) != net.names():
        return False
    at = {name: index for index, name in enumerate(paper)}
    spots = [sorted([at[name] for name in below[place]]) for place in below]
    return all([indexes[-1] - indexes[0] == len(indexes) - 1 for indexes in spots])


def _first_indexes(net, moments, order):
    """The index in the order of the first tree leaf of each place, in a dict. Raises BadMoments and BadValue."""
    below = _leaves_below(net, moments)
    if not _has_order(net, below, order):
        raise BadValue(order)
    return {place: min([order.index(name) for name in below[place]]) for place in below}


def _from_left(lines, firsts):
    """The lines in the order of their first tree leaves."""
    return sorted(lines, key=lambda place: firsts[place])


def _orders_below(net, arrows, place):
    """The orders of the tree leaves of the place."""
    name = net.name_of(place)
    if name is not None:
        return [[name]]
    parts = [_orders_below(net, arrows, child) for mother, child in arrows if mother == place]
    if len(parts) == 1:
        return parts[0]
    left, right = parts
    joined = [one + other for one in left for other in right]
    return joined + [other + one for one in left for other in right]


def _end_signs(net, given):
    """The sign with which the line of each place ends, in a dict."""
    givers = [giver for giver, mixing in given]
    signs = {place: "." for place in net.places()}
    signs.update({place: "o" if place in givers else "+" for place in net.splits()})
    signs.update({place: "x" for place in net.mixings()})
    return signs
