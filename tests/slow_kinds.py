"""Slow plain readings of points 49 to 54, over the two lists of a net."""

from itertools import combinations, product

from samples import below
from slow_knots import inner_of, kind_of
from slow_moments import places_of
from slow_profiles import slow_stack_free
from slow_rows import children_of, mothers_of, slow_least


def mixings_of(arrows):
    return [place for place in inner_of(arrows) if kind_of(arrows, place) == "mixing"]


def slow_choices(arrows):
    """Point 51: all choices, ascending."""
    mixings = mixings_of(arrows)
    return [list(zip(mixings, kept)) for kept in product(*[sorted(mothers_of(arrows, place)) for place in mixings])]


def slow_is_support(arrows, choice):
    """Point 51: whether each inner place has a child when the arrows of the mothers that are not kept are gone."""
    gone = {(mother, mixing) for mixing, kept in choice for mother in mothers_of(arrows, mixing) if mother != kept}
    assert len(gone) == len(choice)
    return inner_of(arrows) == inner_of([arrow for arrow in arrows if arrow not in gone])


def slow_supports(arrows):
    return [choice for choice in slow_choices(arrows) if slow_is_support(arrows, choice)]


def slow_crowds(arrows):
    """Point 52: all crowds, by looking at each set of inner places."""
    found, inner = [], inner_of(arrows)
    plain = [place for place in inner if {kind_of(arrows, child) for child in children_of(arrows, place)} == {"mixing"}]
    for many in range(1, len(plain) + 1):
        for part in combinations(plain, many):
            if len({child for place in part for child in children_of(arrows, place)}) < many:
                found.append(list(part))
    return found


def slow_kinds(arrows, leaves):
    """Point 49: the words of the kinds of the net."""
    children = {place: [kind_of(arrows, child) for child in children_of(arrows, place)] for place in inner_of(arrows)}
    told = {
        "tree": not mixings_of(arrows),
        "tree child": all(any(kind != "mixing" for kind in kinds) for kinds in children.values()),
        "pluckable": slow_least(arrows, leaves)[1][0] == [],
        "tree based": any(slow_is_support(arrows, choice) for choice in slow_choices(arrows)),
        "stack free": slow_stack_free(arrows),
    }
    return [word for word in told if told[word]]


def joined_with(place, arrows):
    """The set of the places that are joined with the place, itself included."""
    found = {place}
    while True:
        grown = found | {end for arrow in arrows if found & set(arrow) for end in arrow}
        if grown == found:
            return found
        found = grown


def slow_blobs(arrows, leaves):
    """Point 50."""
    bridges = []
    for u, v in arrows:
        if v not in joined_with(u, [arrow for arrow in arrows if arrow != (u, v)]):
            bridges.append((u, v))
    kept = [arrow for arrow in arrows if arrow not in bridges]
    parts = {tuple(sorted(joined_with(place, kept))) for place in places_of(arrows, leaves)}
    return sorted(list(part) for part in parts if len(part) > 1)


def slow_level(arrows, leaves):
    mixings = mixings_of(arrows)
    return max([sum(place in mixings for place in blob) for blob in slow_blobs(arrows, leaves)] + [0])


def slow_cluster(arrows, leaves, place):
    """Point 54: the names of the leaves that are the place or below it."""
    reached = below(place, arrows) | {place}
    return sorted(name for end, name in leaves if end in reached)
