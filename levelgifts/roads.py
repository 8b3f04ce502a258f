"""The two roads: from fitting moments to a full row, and from a full row to fitting moments."""

from levelgifts.faults import BadRow
from levelgifts.momentjudge import times_of
from levelgifts.pairs import pair_places, pairs
from levelgifts.pluck import is_one_place, pluck, rests


def row_of_moments(net, moments):
    """The full row that plucks the latest inner places first."""
    times = times_of(net, moments)
    row = []
    while not is_one_place(net):
        pair = _latest_pair(net, times)
        row.append(pair)
        net = pluck(net, pair)
    return row


def _latest_pair(net, times):
    """The least pair that plucks a split with the greatest moment of an inner place."""
    latest = max([times[place] for place in net.inner()])
    return min([pair for pair in pairs(net) if times[pair_places(net, pair)[0]] == latest])


def moments_of_row(net, row):
    """The fitting moments in which the places that are plucked first are the latest."""
    times = {place: len(row) for place, name in net.leaves()}
    waiting = net.inner()
    for at, left in enumerate(rests(net, row)):
        kept = left.inner()
        times.update({place: len(row) - 1 - at for place in waiting if place not in kept})
        waiting = kept
    # Only a one-place net has no inner place.
    if waiting:
        raise BadRow(len(row))
    return [(place, times[place]) for place in net.places()]
