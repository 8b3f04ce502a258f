"""Kinds of nets, and blobs of places that no single arrow joins."""

from levelgifts.faults import BadValue
from levelgifts.newick import read_newick
from levelgifts.pluck import can_be_plucked
from levelgifts.profiles import is_stack_free
from levelgifts.shape import places_below
from levelgifts.treebased import crowded_places, find_support


def _without_mixing(net):
    """Whether the net has no mixing."""
    return not net.mixings()


def _with_plain_children(net):
    """Whether each inner place has a child that is no mixing."""
    return not crowded_places(net)


def _plucked_down(net):
    """Whether the net can be plucked down."""
    return can_be_plucked(net)


def _supported(net):
    """Whether the net has a support."""
    return find_support(net) is not None


def _free_of_stacks(net):
    """Whether no mixing is the child of a mixing."""
    return is_stack_free(net)


# In the order in which they are told.
HOLDERS = {
    "tree": _without_mixing,
    "tree child": _with_plain_children,
    "pluckable": _plucked_down,
    "tree based": _supported,
    "stack free": _free_of_stacks,
}
# The other kinds of which each net of the kind is.
WIDER = {
    "tree": ("tree child", "pluckable", "tree based", "stack free"),
    "tree child": ("pluckable", "tree based", "stack free"),
    "pluckable": ("tree based",),
    "tree based": (),
    "stack free": ("tree based",),
}
# The first net is of all kinds but the first one; the second one is pluckable and not stack free;
# the third one is stack free and not pluckable. So some net parts any two kinds that can be parted.
PARTING = ("((a,(b)#1),(#1,c));", "((a,((b)#2)#1),(#1,(#2,c)));", "(((a)#1,(b)#2),(#1,#2));")


def holds(net, kind):
    """Whether the net is of the kind."""
    _demand_kind(kind)
    holder = HOLDERS[kind]
    return holder(net)


def kinds_of(net):
    """The words of the kinds of the net."""
    return [kind for kind in HOLDERS if holds(net, kind)]


def inside(first, second):
    """Whether every net of the first kind is of the second kind."""
    _demand_kind(first)
    _demand_kind(second)
    return first == second or second in WIDER[first]


def parting_net(first, second):
    """The text of a net of the first kind that is not of the second kind, or None if there is no such net."""
    if inside(first, second):
        return None
    nets = [(text, read_newick(text)) for text in PARTING]
    return [text for text, net in nets if holds(net, first) and not holds(net, second)][0]


def blobs(net):
    """The parts of two or more places into which the places fall without the bridges."""
    arrows = net.arrows()
    beside = _neighbours(net, [arrow for arrow in arrows if not _is_bridge(net, arrow)])
    parts = [(place, places_below(place, beside)) for place in net.places()]
    return [part for place, part in parts if part and part[0] == place]


def level(net):
    """The greatest number of mixings in one blob."""
    mixings = net.mixings()
    return max([len([place for place in blob if place in mixings]) for blob in blobs(net)], default=0)


def _demand_kind(value):
    """Raises the error that is due if the plain value is no word of a kind."""
    if value not in list(HOLDERS):
        raise BadValue(value)


def _neighbours(net, arrows):
    """The places that the arrows, without direction, join with each place, in a dict."""
    beside = {place: [] for place in net.places()}
    for mother, child in arrows:
        beside[mother].append(child)
        beside[child].append(mother)
    return beside


def _is_bridge(net, arrow):
    """Whether the two ends of the arrow are not joined without it."""
    mother, child = arrow
    return child not in places_below(mother, _neighbours(net, [other for other in net.arrows() if other != arrow]))
