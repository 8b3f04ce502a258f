"""Profiles: how many ways lead from each inner place to each leaf."""

from levelgifts.faults import NoPlace, Unlike
from levelgifts.shape import same_value


def ways(net, place):
    """The numbers of ways from the place to each leaf, the leaves in the order of their names."""
    found = _all_ways(net)
    if place not in found:
        raise NoPlace(place)
    return found[place]


def profile(net):
    """The names, and the ways of all inner places, both ascending."""
    found = _all_ways(net)
    return net.names(), sorted([found[place] for place in net.inner()])


def is_stack_free(net):
    """Whether no mixing is the child of a mixing."""
    mixings = net.mixings()
    return not any([child in mixings for mixing in mixings for child in net.children(mixing)])


def is_profile_of(net, paper):
    """Whether the paper equals the profile of the net."""
    return same_value(paper, profile(net))


def profile_gap(first, second):
    """The number of rows of the two profiles that remain if equal ones are taken away together."""
    apart = sorted(set(first.names()) ^ set(second.names()))
    if apart:
        raise Unlike(apart[0])
    rows, others = profile(first)[1], profile(second)[1]
    return sum([abs(rows.count(row) - others.count(row)) for row in sorted(set(rows + others))])


def _all_ways(net):
    """The ways of each place, in a dict."""
    names = net.names()
    found = {}
    for place in reversed(net.downward()):
        below = [found[child] for child in net.children(place)]
        if below:
            found[place] = tuple([sum(column) for column in zip(*below)])
        else:
            found[place] = tuple([int(name == net.name_of(place)) for name in names])
    return found
