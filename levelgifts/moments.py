"""What fitting moments tell of a net, and all fitting moments of a net."""

from levelgifts.faults import BadValue, NoPlace, TooMany
from levelgifts.momentjudge import is_moments, times_of
from levelgifts.nets import names_reached

MOST_RANKS = 7
MOST_PAPERS = 60
MOST_INNER = 7


def gifts(net, moments):
    """The ascending list of the arrows whose two ends have the same moment."""
    times = times_of(net, moments)
    return [(mother, child) for mother, child in net.arrows() if times[mother] == times[child]]


def tree_arrows(net, moments):
    """The ascending list of the arrows that are no gifts."""
    times = times_of(net, moments)
    return [(mother, child) for mother, child in net.arrows() if times[mother] != times[child]]


def tree_leaves(net, moments, place):
    """The ascending list of the names of the leaves that the place reaches by tree arrows."""
    places = net.places()
    if place not in places:
        raise NoPlace(place)
    children = {upper: [] for upper in places}
    for mother, child in tree_arrows(net, moments):
        children[mother].append(child)
    return names_reached(net, place, children)


def live_at(net, moments, moment):
    """The ascending list of the lower ends of the lines that live at the moment."""
    times = times_of(net, moments)
    found = [child for mother, child in tree_arrows(net, moments) if times[mother] < moment <= times[child]]
    # The line of the root has no beginning.
    if moment <= times[net.root]:
        found.append(net.root)
    return sorted(found)


def squeeze(net, moments):
    """The moments in which the different ones that occur are 0, 1, 2, .. in their order."""
    times = times_of(net, moments)
    different = sorted(set([times[place] for place in times]))
    ranks = {moment: rank for rank, moment in enumerate(different)}
    return [(place, ranks[times[place]]) for place in net.places()]


def all_moments(net, *, ranks=7, limit=20):
    """The first fitting moments below the number of ranks, which the leaves have, as many as the limit tells."""
    if not 1 <= ranks <= MOST_RANKS:
        raise BadValue(ranks)
    if not 1 <= limit <= MOST_PAPERS:
        raise BadValue(limit)
    many = len(net.inner())
    if many > MOST_INNER:
        raise TooMany("inner", many)
    times = {place: ranks for place, name in net.leaves()}
    waiting = [place for place in net.downward() if place not in times]
    found = []
    for paper in _papers(net, waiting, times, ranks):
        if is_moments(net, paper):
            found.append(paper)
        if len(found) == limit:
            break
    return found


def _papers(net, waiting, times, ranks):
    """Yields papers of moments, in the order of those of the places that wait for one. All that fit are among them."""
    if not waiting:
        yield [(place, times[place]) for place in net.places()]
        return
    place, *others = waiting
    for moment in _moments_below(net, place, times, ranks):
        longer = {**times, place: moment}
        yield from _papers(net, others, longer, ranks)


def _moments_below(net, place, times, ranks):
    """The moments, ascending, that the inner place may have below its mothers."""
    above = [times[mother] for mother in net.mothers(place)]
    if len(above) == 2:
        # A mixing has the moment of one mother, and the other one is truly earlier.
        return [max(above)] if above[0] != above[1] else []
    return list(range(max(above, default=-1) + 1, ranks))
