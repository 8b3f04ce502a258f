"""Choices of a mother for each mixing, supports that leave each inner place a child, and crowds that forbid them."""

from levelgifts.momentjudge import times_of
from levelgifts.shape import is_place_pair, is_whole


def is_choice(net, paper):
    """Whether the paper gives each mixing of the net one of its mothers, in ascending order."""
    if not isinstance(paper, list) or not all([is_place_pair(pair) for pair in paper]):
        return False
    if [mixing for mixing, mother in paper] != net.mixings():
        return False
    return all([mother in net.mothers(mixing) for mixing, mother in paper])


def is_support(net, paper):
    """Whether the paper is a choice with which each inner place keeps a child."""
    return is_choice(net, paper) and _keeps_children(net, {mixing: mother for mixing, mother in paper})


def is_crowd(net, paper):
    """Whether the paper is inner places above mixings alone that have fewer children than they are."""
    if not isinstance(paper, list) or not all([is_whole(place) for place in paper]):
        return False
    crowded = crowded_places(net)
    if paper != [place for place in crowded if place in paper]:
        return False
    return len(set([child for place in paper for child in net.children(place)])) < len(paper)


def find_support(net):
    """A support of the net, or None."""
    kept, crowd = _kept_or_crowd(net)
    if crowd is not None:
        return None
    return [(mixing, kept[mixing] if mixing in kept else net.mothers(mixing)[0]) for mixing in net.mixings()]


def find_crowd(net):
    """A crowd of the net, or None."""
    return _kept_or_crowd(net)[1]


def support_of_moments(net, moments):
    """The support that keeps for each mixing the mother that is earlier."""
    times = times_of(net, moments)
    both = [(mixing, mother) for mixing in net.mixings() for mother in net.mothers(mixing)]
    return [(mixing, mother) for mixing, mother in both if times[mother] != times[mixing]]


def crowded_places(net):
    """The inner places all of whose children are mixings, ascending."""
    mixings = net.mixings()
    return [place for place in net.inner() if all([child in mixings for child in net.children(place)])]


def _keeps_children(net, kept):
    """Whether each inner place has a child that is no mixing, or a mixing for which it is the kept mother."""
    return all([any([kept.get(child, place) == place for child in net.children(place)]) for place in net.inner()])


def _kept_or_crowd(net):
    """A dict that gives each crowded place a mixing of its own, by the mixing, and None; or a dict and a crowd."""
    kept = {}
    for place in crowded_places(net):
        looked = {}
        if not _takes_mixing(net, place, kept, looked):
            # The mixings that were looked at are all children of the place and of those that keep them.
            return kept, sorted([place] + [kept[mixing] for mixing in looked])
    return kept, None


def _takes_mixing(net, place, kept, looked):
    """Whether the place can keep a mixing, if need be by giving others to those that keep them so far."""
    for mixing in net.children(place):
        if mixing not in looked:
            looked[mixing] = True
            if mixing not in kept or _takes_mixing(net, kept[mixing], kept, looked):
                kept[mixing] = place
                return True
    return False
