"""Slow plain readings of points 78 and 79, over the two lists of a net."""

from samples import below, slow_fault
from slow_knots import kind_of
from slow_moments import places_of
from slow_rows import children_of, mothers_of, slow_pluck, slow_word

SIGNS = "abcdefghijklmnopqrstuvwxyz0123456789"


def formed(edit):
    """Whether the plain value has the form of an edit."""
    def name(value):
        return type(value) is str

    def arrow(value):
        return type(value) is tuple and len(value) == 2 and type(value[0]) is int and type(value[1]) is int

    if type(edit) is not tuple or not edit or type(edit[0]) is not str:
        return False
    word, rest = edit[0], edit[1:]
    if word == "hang":
        return len(rest) == 2 and name(rest[0]) and (rest[1] is None or arrow(rest[1]))
    if word == "drop":
        return len(rest) == 1 and name(rest[0])
    if word == "tie":
        return len(rest) == 2 and arrow(rest[0]) and arrow(rest[1])
    if word == "cut":
        return len(rest) == 1 and arrow(rest[0])
    return word == "pluck" and len(rest) == 2 and name(rest[0]) and name(rest[1])


def slow_edit(arrows, leaves, edit):
    """The class of the error and its attributes, or "net" and the two lists behind the edit, ascending."""
    if not formed(edit):
        return "BadEdit", {"word": "form"}
    told = {"hang": slow_hang, "drop": slow_drop, "tie": slow_tie, "cut": slow_cut, "pluck": slow_plucked}[edit[0]]
    found = told(arrows, leaves, *edit[1:])
    if found[0] == "net":
        found = ("net", (sorted(found[1][0]), sorted(found[1][1])))
        assert slow_fault(*found[1]) is None
    return found


def new_places(arrows, leaves):
    taken = places_of(arrows, leaves)
    return [number for number in range(100) if number not in taken][:2]


def on_arrow(arrows, arrow, place):
    """The arrows with the place on the arrow."""
    u, v = arrow
    return [other for other in arrows if other != arrow] + [(u, place), (place, v)]


def slow_hang(arrows, leaves, name, at):
    if not 0 < len(name) < 9 or not set(name) <= set(SIGNS) or name[0].isdigit():
        return "BadName", {"bad": name}
    if at is not None and at not in arrows:
        return "NoArrow", {"bad": at}
    if name in [other for place, other in leaves]:
        return "BadEdit", {"word": "taken"}
    if len(leaves) == 12:
        return "TooMany", {"word": "leaves", "many": 13}
    split, leaf = new_places(arrows, leaves)
    [root] = [place for place in places_of(arrows, leaves) if not mothers_of(arrows, place)]
    changed = arrows + [(split, root)] if at is None else on_arrow(arrows, at, split)
    return "net", (changed + [(split, leaf)], leaves + [(leaf, name)])


def slow_drop(arrows, leaves, name):
    if name not in [other for place, other in leaves]:
        return "NoLeaf", {"bad": name}
    [leaf] = [place for place, other in leaves if other == name]
    if not arrows:
        return "BadEdit", {"word": "last"}
    [split] = mothers_of(arrows, leaf)
    if kind_of(arrows, split) == "mixing":
        return "BadEdit", {"word": "mixing"}
    [other] = [child for child in children_of(arrows, split) if child != leaf]
    changed = [arrow for arrow in arrows if split not in arrow and leaf not in arrow]
    changed += [(above, other) for above in mothers_of(arrows, split)]
    if len(set(changed)) < len(changed):
        return "BadEdit", {"word": "double"}
    return "net", (changed, [pair for pair in leaves if pair[0] != leaf])


def slow_tie(arrows, leaves, giver, taker):
    for arrow in (giver, taker):
        if arrow not in arrows:
            return "NoArrow", {"bad": arrow}
    if giver == taker:
        return "BadEdit", {"word": "same"}
    split, mixing = new_places(arrows, leaves)
    changed = on_arrow(on_arrow(arrows, giver, split), taker, mixing) + [(split, mixing)]
    # A ring would come about, as it is seen in the arrows that there would be.
    if split in below(split, changed):
        assert giver[0] == taker[1] or giver[0] in below(taker[1], arrows)
        return "BadEdit", {"word": "ring"}
    if sum(len(mothers_of(arrows, place)) == 2 for place in places_of(arrows, leaves)) == 8:
        return "TooMany", {"word": "mixings", "many": 9}
    return "net", (changed, leaves)


def slow_cut(arrows, leaves, arrow):
    if arrow not in arrows:
        return "NoArrow", {"bad": arrow}
    p, m = arrow
    if kind_of(arrows, m) != "mixing":
        return "BadEdit", {"word": "end"}
    if kind_of(arrows, p) != "split":
        return "BadEdit", {"word": "mother"}
    [c] = [child for child in children_of(arrows, p) if child != m]
    [q] = [mother for mother in mothers_of(arrows, m) if mother != p]
    [d] = children_of(arrows, m)
    changed = [other for other in arrows if p not in other and m not in other]
    changed += [(g, c) for g in mothers_of(arrows, p)] + [(q, d)]
    if len(set(changed)) < len(changed):
        return "BadEdit", {"word": "double"}
    return "net", (changed, leaves)


def slow_plucked(arrows, leaves, x, y):
    for name in (x, y):
        if name not in [other for place, other in leaves]:
            return "NoLeaf", {"bad": name}
    if slow_word(arrows, leaves, (x, y)) is None:
        return "NoPair", {"bad": (x, y)}
    return "net", slow_pluck(arrows, leaves, (x, y))
