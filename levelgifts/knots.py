"""Knots: sets of inner places none of which could be the latest of them."""

from levelgifts.faults import NoPlace
from levelgifts.shape import is_whole


def _split_child(net, members, place):
    """Whether the place is a split above a split that is a member."""
    return net.kind_of(place) == "split" and any(
        [net.kind_of(child) == "split" and child in members for child in net.children(place)]
    )


def _member_below_mixing(net, members, place):
    """Whether the place is a split above a mixing whose child is a member."""
    if net.kind_of(place) != "split":
        return False
    between = [child for child in net.children(place) if net.kind_of(child) == "mixing"]
    return any([lower in members for mixing in between for lower in net.children(mixing)])


def _mixing_children(net, members, place):
    """Whether the place is a split and both its children are mixings that are members."""
    return net.kind_of(place) == "split" and all(
        [net.kind_of(child) == "mixing" and child in members for child in net.children(place)]
    )


def _member_child(net, members, place):
    """Whether the place is a mixing whose child is a member."""
    return net.kind_of(place) == "mixing" and net.children(place)[0] in members


def _bound_mothers(net, members, place):
    """Whether the place is a mixing and each mother is a mixing or has its other child among the members."""
    if net.kind_of(place) != "mixing":
        return False
    # A mother that is a mixing has no other child.
    beside = [child for mother in net.mothers(place) for child in net.children(mother) if child != place]
    return all([child in members for child in beside])


# In the order in which they are told.
RULES = {
    "split": _split_child,
    "below": _member_below_mixing,
    "mixings": _mixing_children,
    "child": _member_child,
    "mothers": _bound_mothers,
}


def knot_rule(net, members, place):
    """The rule by which the place is held by the members, or None."""
    _demand_inner(net, [*members, place])
    return _rule(net, members, place)


def is_knot(net, paper):
    """Whether the paper is a knot of the net."""
    if not isinstance(paper, list) or not all([is_whole(place) for place in paper]):
        return False
    inner = net.inner()
    if not paper or paper != [place for place in inner if place in paper]:
        return False
    return _held(net, paper) == paper


def greatest_knot(net, *, members=None):
    """What is left of the members, or of all inner places, when those that are not held go away again and again."""
    inner = net.inner()
    if members is None:
        members = inner
    _demand_inner(net, members)
    return _greatest_part(net, [place for place in inner if place in members])


def knot_core(net):
    """A knot within the greatest one of which no smaller part is a knot, or the empty list."""
    knot = greatest_knot(net)
    core = knot
    for place in knot:
        if place in core:
            smaller = _greatest_part(net, [member for member in core if member != place])
            core = smaller if smaller else core
    return core


def _demand_inner(net, places):
    """Raises the error that is due if one of the integers is no inner place of the net."""
    inner = net.inner()
    for place in places:
        if place not in inner:
            raise NoPlace(place)


def _rule(net, members, place):
    """The first rule that holds for the inner place, or None."""
    rules = dict(RULES)
    for word in rules:
        holds = rules[word]
        if holds(net, members, place):
            return word
    return None


def _held(net, members):
    """The members that are held by all of them."""
    return [place for place in members if _rule(net, members, place) is not None]


def _greatest_part(net, members):
    """The greatest knot among the inner places, or the empty list."""
    held = _held(net, members)
    while held != members:
        members = held
        held = _held(net, members)
    return members
