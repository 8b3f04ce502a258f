"""Rows and nets that are read back from a profile."""

from levelgifts.faults import BadPaper, BadRow
from levelgifts.pluck import build
from levelgifts.profiles import is_profile_of, is_stack_free
from levelgifts.shape import MOST_LEAVES, MOST_MIXINGS, is_name, is_whole


def row_from_profile(paper):
    """The least row of the nets that have the profile."""
    return _read(paper)[0]


def net_from_profile(paper):
    """The net that is built from the least row."""
    return _read(paper)[1]


def _read(paper):
    """The row that is read from the paper, and the net that is built from it. Raises BadPaper."""
    if not _has_form(paper):
        raise BadPaper("profile")
    row, names, rows = _plucked_down(*paper)
    if rows or len(names) != 1:
        raise BadPaper("profile")
    net = _built(row, names[0])
    if not is_stack_free(net) or not is_profile_of(net, paper):
        raise BadPaper("profile")
    return row, net


def _has_form(paper):
    """Whether the plain value is a pair of a list of names and of a list of tuples of as many integers, both short."""
    if not isinstance(paper, tuple) or len(paper) != 2:
        return False
    names, rows = paper
    if not isinstance(names, list) or not isinstance(rows, list):
        return False
    # Each leaf but one brings a split, and each mixing brings a split and itself.
    if len(names) > MOST_LEAVES or len(rows) > MOST_LEAVES - 1 + 2 * MOST_MIXINGS:
        return False
    return all([is_name(name) for name in names]) and all([_is_count_row(row, len(names)) for row in rows])


def _is_count_row(value, many):
    """Whether the plain value is a tuple of so many integers."""
    return isinstance(value, tuple) and len(value) == many and all([is_whole(item) for item in value])


def _built(row, last):
    """The net of the row. Raises BadPaper if it is beyond the bounds of nets."""
    try:
        return build(row, last=last)
    except BadRow:
        raise BadPaper("profile") from None


def _plucked_down(names, rows):
    """The pairs that are plucked in the counts as long as there is one, and the names and rows that are left."""
    row = []
    found = _least_pair(names, rows)
    while found is not None:
        row.append((names[found[0]], names[found[1]]))
        names, rows = _without(names, rows, found)
        found = _least_pair(names, rows)
    return row, names, rows


def _least_pair(names, rows):
    """The indexes of the least two names that can be plucked, as a tuple, or None."""
    many = len(names)
    for plucked in range(many):
        for stays in range(many):
            if plucked != stays and _ones(many, (plucked, stays)) in rows and _ones(many, (stays,)) not in rows:
                return plucked, stays
    return None


def _ones(many, places):
    """The row with 1 at the indexes and 0 elsewhere."""
    return tuple([int(at in places) for at in range(many)])


def _without(names, rows, found):
    """The names and the rows that are left behind the pair, which is given by its two indexes."""
    plucked, stays = found
    alone = _ones(len(names), (plucked,))
    left = list(rows)
    left.remove(_ones(len(names), found))
    if alone in left:
        left.remove(alone)
        return names, [_freed(row, plucked, stays) for row in left]
    return _cut(names, plucked), [_cut(row, plucked) for row in left]


def _freed(row, plucked, stays):
    """The row with the count of the leaf that stays taken from that of the plucked one."""
    return tuple([count - row[stays] if at == plucked else count for at, count in enumerate(row)])


def _cut(items, at):
    """The list or tuple without the item at the index."""
    return items[:at] + items[at + 1:]
