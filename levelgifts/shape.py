"""Names, and what a list of arrows and a list of leaves must hold to be a net."""

LETTERS = "abcdefghijklmnopqrstuvwxyz"
DIGITS = "0123456789"
LONGEST_NAME = 8
LAST_PLACE = 9999
MOST_ARROWS = 46
MOST_LEAVES = 12
MOST_MIXINGS = 8

# The numbers of mothers and of children of a lone place, a root, another split, a mixing and a leaf.
DEGREES = ((0, 0), (0, 2), (1, 2), (2, 1), (1, 0))


def is_name(value):
    """Whether the plain value is a name."""
    if not isinstance(value, str) or not 1 <= len(value) <= LONGEST_NAME:
        return False
    return value[0] in LETTERS and all([sign in LETTERS + DIGITS for sign in value])


def is_whole(value):
    """Whether the plain value is an integer; True and False are none."""
    return isinstance(value, int) and not isinstance(value, bool)


def same_value(value, other):
    """Whether the two plain values are equal, where True and False are no integers, at every depth."""
    if isinstance(value, (list, tuple)) and isinstance(other, (list, tuple)):
        if isinstance(value, list) != isinstance(other, list) or len(value) != len(other):
            return False
        return all([same_value(item, beside) for item, beside in zip(value, other)])
    return isinstance(value, bool) == isinstance(other, bool) and value == other


def is_place(value):
    """Whether the plain value is an integer that may be a place."""
    return is_whole(value) and 0 <= value <= LAST_PLACE


def is_whole_pair(value):
    """Whether the plain value is a pair of integers."""
    return isinstance(value, tuple) and len(value) == 2 and is_whole(value[0]) and is_whole(value[1])


def is_place_pair(value):
    """Whether the plain value is a pair of integers that may be places."""
    return isinstance(value, tuple) and len(value) == 2 and is_place(value[0]) and is_place(value[1])


def _is_labelled_place(value):
    """Whether the plain value is a pair of what may be a place and of a string."""
    return isinstance(value, tuple) and len(value) == 2 and is_place(value[0]) and isinstance(value[1], str)


def all_places(arrows, leaves):
    """The ascending list of the numbers that occur in the arrows or in the leaves."""
    ends = [end for arrow in arrows for end in arrow]
    return sorted(set(ends + [leaf[0] for leaf in leaves]))


def relatives(arrows, leaves):
    """Two dicts with the places ascending as keys: the mothers and the children of each, ascending."""
    places = all_places(arrows, leaves)
    mothers = {place: [] for place in places}
    children = {place: [] for place in places}
    for mother, child in sorted(arrows):
        mothers[child].append(mother)
        children[mother].append(child)
    return mothers, children


def places_below(place, children):
    """The ascending list of the places that are below the place."""
    found = {}
    waiting = list(children[place])
    while waiting:
        lower = waiting.pop()
        if lower not in found:
            found[lower] = True
            waiting.extend(children[lower])
    return sorted(found)


def _long_lists(arrows, leaves):
    """Which of the two lists are too long."""
    lengths = ((len(arrows), MOST_ARROWS), (len(leaves), MOST_LEAVES))
    return [at for at, (length, most) in enumerate(lengths) if length > most]


def _bad_arrows(arrows, leaves):
    """The indexes of the arrows that have not the form of one."""
    return [at for at, arrow in enumerate(arrows) if not is_place_pair(arrow)]


def _bad_leaves(arrows, leaves):
    """The indexes of the leaves that have not the form of one."""
    return [at for at, leaf in enumerate(leaves) if not _is_labelled_place(leaf)]


def _bad_names(arrows, leaves):
    """The indexes of the leaves whose string is no name."""
    return [at for at, leaf in enumerate(leaves) if not is_name(leaf[1])]


def _leaves_again(arrows, leaves):
    """The indexes of the leaves whose place or name stands in an earlier one."""
    places = [leaf[0] for leaf in leaves]
    names = [leaf[1] for leaf in leaves]
    return [at for at in range(len(leaves)) if places[at] in places[:at] or names[at] in names[:at]]


def _arrows_again(arrows, leaves):
    """The indexes of the arrows that equal an earlier one."""
    return [at for at, arrow in enumerate(arrows) if arrow in arrows[:at]]


def _no_leaves(arrows, leaves):
    """The index at which the first leaf is missing, if it is."""
    return [] if leaves else [0]


def _bad_degrees(mothers, children, labelled):
    """The places whose numbers of mothers and of children no kind of place has."""
    return [place for place in mothers if (len(mothers[place]), len(children[place])) not in DEGREES]


def _bad_roots(mothers, children, labelled):
    """The places without a mother behind the least one; all places if each has a mother."""
    roots = [place for place in mothers if not mothers[place]]
    return roots[1:] if roots else list(mothers)


def _ring_places(mothers, children, labelled):
    """The places that are below themselves."""
    return [place for place in children if place in places_below(place, children)]


def _bad_labels(mothers, children, labelled):
    """The places without children and without a label, and those that have both."""
    return [place for place in children if (not children[place]) != (place in labelled)]


def _too_many_mixings(mothers, children, labelled):
    """The number of the mixings, if that is too great."""
    many = len([place for place in mothers if len(mothers[place]) == 2])
    return [many] if many > MOST_MIXINGS else []


# The faults in the order in which they are told. Each function lists all places or indexes
# at fault, the one that is told first; the later functions rely on the earlier ones.
LIST_FAULTS = {
    "long": _long_lists,
    "arrow": _bad_arrows,
    "leaf": _bad_leaves,
    "name": _bad_names,
    "again": _leaves_again,
    "double": _arrows_again,
    "none": _no_leaves,
}
PLACE_FAULTS = {
    "degree": _bad_degrees,
    "roots": _bad_roots,
    "ring": _ring_places,
    "label": _bad_labels,
    "mixings": _too_many_mixings,
}


def first_fault(finders, *given):
    """The first word of the table whose function finds something, with the first thing that it finds, or None."""
    for word in finders:
        finder = finders[word]
        found = finder(*given)
        if found:
            return word, found[0]
    return None


def net_fault(arrows, leaves):
    """None if the two lists give a net, otherwise the first fault as a pair (word, at)."""
    fault = first_fault(dict(LIST_FAULTS), arrows, leaves)
    if fault is not None:
        return fault
    mothers, children = relatives(arrows, leaves)
    return first_fault(dict(PLACE_FAULTS), mothers, children, [leaf[0] for leaf in leaves])
