"""Plucking pairs and putting them back, one by one and in rows."""

from levelgifts.faults import BadName, BadRow, BadValue, NoLeaf, NoPair, TooMany
from levelgifts.nets import Net
from levelgifts.pairs import is_name_pair, pair_places, pairs
from levelgifts.shape import MOST_LEAVES, MOST_MIXINGS, is_name

MOST_ROWS = 60
MOST_INNER = 8


def pluck(net, pair):
    """The net that is left behind the pair."""
    gone = pair_places(net, pair)
    plucked, stays = [net.place_of(name) for name in pair]
    added = [(above, stays) for above in net.mothers(gone[0])]
    if len(gone) == 1:
        return changed(net, gone + [plucked], added)
    split, mixing = gone
    added.extend([(other, plucked) for other in net.mothers(mixing) if other != split])
    return changed(net, gone, added)


def changed(net, gone, added):
    """The net without the places that are gone and their arrows, and with the added arrows."""
    kept = [(mother, child) for mother, child in net.arrows() if mother not in gone and child not in gone]
    return Net(kept + added, [(place, name) for place, name in net.leaves() if place not in gone])


def put_back(net, pair):
    """The net that plucking the pair brings back to the one that is passed."""
    plucked, stays = pair
    if not is_name(plucked):
        raise BadName(plucked)
    # This raises the error that is due if the leaf that stays is missing.
    net.place_of(stays)
    if plucked == stays:
        raise NoPair(pair)
    if plucked in net:
        return _with_mixing(net, pair)
    return _with_leaf(net, pair)


def _with_leaf(net, pair):
    """The net with a new leaf as the sister of the leaf that stays."""
    if len(net.leaves()) == MOST_LEAVES:
        raise TooMany("leaves", MOST_LEAVES + 1)
    name, stays = pair
    split, leaf = free_numbers(net)
    arrows = _put_above(net.arrows(), split, net.place_of(stays))
    return Net(arrows + [(split, leaf)], net.leaves() + [(leaf, name)])


def _with_mixing(net, pair):
    """The net with a mixing above the one leaf, and an arrow into it from above the leaf that stays."""
    if len(net.mixings()) == MOST_MIXINGS:
        raise TooMany("mixings", MOST_MIXINGS + 1)
    freed, stays = [net.place_of(name) for name in pair]
    split, mixing = free_numbers(net)
    arrows = _put_above(_put_above(net.arrows(), split, stays), mixing, freed)
    return Net(arrows + [(split, mixing)], net.leaves())


def _put_above(arrows, new, leaf):
    """The arrows with the new place on the arrow into the leaf, or above the leaf if there is no such arrow."""
    return [(mother, new if child == leaf else child) for mother, child in arrows] + [(new, leaf)]


def free_numbers(net):
    """The two least numbers that are no places of the net, ascending."""
    taken = net.places()
    free = [number for number in range(len(taken) + 2) if number not in taken]
    return free[0], free[1]


def rests(net, row):
    """Yields the net that is left behind each pair of the row."""
    for at, pair in enumerate(row):
        net = _plucked_at(net, pair, at)
        yield net


def _plucked_at(net, pair, at):
    """The net behind the pair, which has the index in its row. Raises BadRow."""
    try:
        return pluck(net, pair)
    except (NoLeaf, NoPair):
        raise BadRow(at) from None


def pluck_all(net, row):
    """The rest of the row."""
    left = list(rests(net, row))
    return left[-1] if left else net


def build(row, *, last):
    """The net that the row plucks down to one leaf with the name."""
    if not is_name(last):
        raise BadName(last)
    net = Net([], [(0, last)])
    for at in reversed(range(len(row))):
        net = _put_back_at(net, row[at], at)
    return net


def _put_back_at(net, pair, at):
    """The net with the pair, which has the index in its row, put back. Raises BadRow."""
    try:
        return put_back(net, pair)
    except (BadName, NoLeaf, NoPair, TooMany):
        raise BadRow(at) from None


def least_row(net):
    """The least row and its rest."""
    row = []
    found = pairs(net)
    while found:
        row.append(found[0])
        net = pluck(net, found[0])
        found = pairs(net)
    return row, net


def is_one_place(net):
    """Whether the net is a one-place net."""
    return len(net.places()) == 1


def can_be_plucked(net):
    """Whether the net can be plucked down."""
    return is_one_place(least_row(net)[1])


def is_row(net, paper):
    """Whether the paper is a full row of the net."""
    rest = rest_of_paper(net, paper)
    return rest is not None and is_one_place(rest)


def rest_of_paper(net, paper):
    """The rest of the row, or None if the plain value is no row that can be followed in the net."""
    if not isinstance(paper, list) or not all([is_name_pair(pair) for pair in paper]):
        return None
    try:
        return pluck_all(net, paper)
    except BadRow:
        return None


def all_rows(net, *, limit=20):
    """The first maximal rows in ascending order, as many as the limit tells."""
    if not 1 <= limit <= MOST_ROWS:
        raise BadValue(limit)
    many = len(net.inner())
    if many > MOST_INNER:
        raise TooMany("inner", many)
    found = []
    for row in _maximal_rows(net):
        found.append(row)
        if len(found) == limit:
            break
    return found


def _maximal_rows(net):
    """Yields all maximal rows, ascending, since none of them is the beginning of another one."""
    found = pairs(net)
    if not found:
        yield []
    for pair in found:
        rest = pluck(net, pair)
        for row in _maximal_rows(rest):
            yield [pair, *row]
