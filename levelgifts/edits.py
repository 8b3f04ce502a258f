"""Edits of nets: hanging and dropping leaves, tying and cutting arrows, and plucking pairs."""

from levelgifts.faults import BadEdit, BadName, NoArrow, TooMany
from levelgifts.nets import Net
from levelgifts.pluck import can_be_plucked, changed, free_numbers, is_one_place, pluck
from levelgifts.shape import MOST_LEAVES, MOST_MIXINGS, is_name, is_whole_pair, places_below


def _hang(net, name, at):
    """The net with a new leaf that hangs on the arrow, or beside the root if there is None."""
    if not is_name(name):
        raise BadName(name)
    if at is not None:
        _demand_arrow(net, at)
    if name in net:
        raise BadEdit("taken")
    if len(net.leaves()) == MOST_LEAVES:
        raise TooMany("leaves", MOST_LEAVES + 1)
    split, leaf = free_numbers(net)
    arrows = net.arrows() + [(split, net.root)] if at is None else _put_on(net.arrows(), at, split)
    return Net(arrows + [(split, leaf)], net.leaves() + [(leaf, name)])


def _drop(net, name):
    """The net without the leaf and its mother."""
    leaf = net.place_of(name)
    if is_one_place(net):
        raise BadEdit("last")
    above = net.mothers(leaf)[0]
    if net.kind_of(above) == "mixing":
        raise BadEdit("mixing")
    return _without(net, [leaf, above], _arrows_past(net, above, leaf))


def _tie(net, giver, taker):
    """The net with a new arrow from the one arrow to the other one."""
    _demand_arrow(net, giver)
    _demand_arrow(net, taker)
    if giver == taker:
        raise BadEdit("same")
    children = {place: net.children(place) for place in net.places()}
    if giver[0] == taker[1] or giver[0] in places_below(taker[1], children):
        raise BadEdit("ring")
    if len(net.mixings()) == MOST_MIXINGS:
        raise TooMany("mixings", MOST_MIXINGS + 1)
    split, mixing = free_numbers(net)
    arrows = _put_on(_put_on(net.arrows(), giver, split), taker, mixing)
    return Net(arrows + [(split, mixing)], net.leaves())


def _cut(net, arrow):
    """The net without the arrow from a split to a mixing, and without these two places."""
    _demand_arrow(net, arrow)
    split, mixing = arrow
    if net.kind_of(mixing) != "mixing":
        raise BadEdit("end")
    if net.kind_of(split) != "split":
        raise BadEdit("mother")
    others = [(mother, child) for mother in net.mothers(mixing) if mother != split for child in net.children(mixing)]
    return _without(net, [split, mixing], _arrows_past(net, split, mixing) + others)


def _pluck_pair(net, plucked, stays):
    """The net behind the pair."""
    return pluck(net, (plucked, stays))


# What stands in an edit behind its word.
FORMS = {
    "hang": ("name", "arrow or None"),
    "drop": ("name",),
    "tie": ("arrow", "arrow"),
    "cut": ("arrow",),
    "pluck": ("name", "name"),
}
EDITORS = {"hang": _hang, "drop": _drop, "tie": _tie, "cut": _cut, "pluck": _pluck_pair}


def edit_net(net, edit):
    """The net behind the edit."""
    if not _is_edit(edit):
        raise BadEdit("form")
    word, *given = edit
    editor = EDITORS[word]
    return editor(net, *given)


def edit_all(net, edits):
    """The net behind all edits of the list."""
    for edit in edits:
        net = edit_net(net, edit)
    return net


def edit_effect(net, edit):
    """The word that tells whether the edit lets the net be plucked down, or keeps it from that, or does neither."""
    before, behind = can_be_plucked(net), can_be_plucked(edit_net(net, edit))
    if before == behind:
        return "same"
    return "lost" if before else "gained"


def _is_edit(value):
    """Whether the plain value has the form of an edit."""
    if not isinstance(value, tuple) or not value or not isinstance(value[0], str) or value[0] not in FORMS:
        return False
    word, *given = value
    forms = FORMS[word]
    return len(given) == len(forms) and all([_has_form(item, form) for item, form in zip(given, forms)])


def _has_form(item, form):
    """Whether the plain value may stand in an edit where the table has the form."""
    if form == "name":
        return isinstance(item, str)
    return is_whole_pair(item) or (item is None and form == "arrow or None")


def _demand_arrow(net, arrow):
    """Raises the error that is due if the pair of integers is no arrow of the net."""
    if arrow not in net.arrows():
        raise NoArrow(arrow)


def _put_on(arrows, arrow, new):
    """The arrows with the new place on one of them."""
    mother, child = arrow
    return [other for other in arrows if other != arrow] + [(mother, new), (new, child)]


def _arrows_past(net, split, gone):
    """The arrow from the mother of the split to the child that is not gone, or nothing above a root."""
    return [(mother, child) for mother in net.mothers(split) for child in net.children(split) if child != gone]


def _without(net, gone, added):
    """The net without the places that are gone, and with the added arrows. Raises BadEdit if an arrow stands twice."""
    arrows = net.arrows()
    if any([arrow in arrows for arrow in added]) or len(set(added)) < len(added):
        raise BadEdit("double")
    return changed(net, gone, added)
