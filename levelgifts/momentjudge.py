"""Whether moments fit a net, and what is wrong with those that do not."""

from levelgifts.faults import BadMoments
from levelgifts.shape import first_fault, is_whole_pair


def _has_form(net, paper):
    """Whether the paper gives each place of the net one moment, in ascending order."""
    if not isinstance(paper, list) or not all([is_whole_pair(pair) for pair in paper]):
        return False
    return [place for place, moment in paper] == net.places()


def _back_arrows(net, times):
    """The arrows that go back, and those that stay at their moment and are into no mixing."""
    mixings = net.mixings()
    return [(u, v) for u, v in net.arrows() if times[u] > times[v] or (times[u] == times[v] and v not in mixings)]


def _bad_gifts(net, times):
    """The mixings that do not have the moment of exactly one mother."""
    found = []
    for mixing in net.mixings():
        above = [times[mother] for mother in net.mothers(mixing)]
        if above.count(times[mixing]) != 1:
            found.append(mixing)
    return found


def _late_places(net, times):
    """The inner places that have no child with a greater moment."""
    return [place for place in net.inner() if max([times[child] for child in net.children(place)]) <= times[place]]


# The faults in the order in which they are told. Each function lists all that is at fault,
# ascending, from the moments of the places.
MOMENT_FAULTS = {"back": _back_arrows, "gift": _bad_gifts, "late": _late_places}


def moment_fault(net, paper):
    """None if the paper is moments that fit the net, otherwise the first fault as a pair (word, at)."""
    if not _has_form(net, paper):
        return "form", None
    return first_fault(dict(MOMENT_FAULTS), net, {place: moment for place, moment in paper})


def is_moments(net, paper):
    """Whether the paper is moments that fit the net."""
    return moment_fault(net, paper) is None


def times_of(net, moments):
    """The moment of each place, in a dict. Raises BadMoments if the value is not moments that fit the net."""
    fault = moment_fault(net, moments)
    if fault is not None:
        word, at = fault
        raise BadMoments(word, at)
    return {place: moment for place, moment in moments}
