"""Slow plain readings of points 38 to 43, over the two lists of a net."""

from itertools import combinations, permutations

from slow_rows import children_of, mothers_of, slow_least


def kind_of(arrows, place):
    return ("leaf", "mixing", "split")[len(children_of(arrows, place))]


def inner_of(arrows):
    return sorted({u for u, v in arrows})


def slow_rules(arrows, members, w):
    """Point 38: all rules that hold for an inner place, in the told order."""
    children, found = children_of(arrows, w), []
    if kind_of(arrows, w) == "split":
        if any(kind_of(arrows, c) == "split" and c in members for c in children):
            found.append("split")
        for c in children:
            if kind_of(arrows, c) == "mixing" and children_of(arrows, c)[0] in members and "below" not in found:
                found.append("below")
        if [kind_of(arrows, c) for c in children] == ["mixing", "mixing"] and set(children) <= set(members):
            found.append("mixings")
        return found
    if children[0] in members:
        found.append("child")
    held = []
    for m in mothers_of(arrows, w):
        if kind_of(arrows, m) == "mixing":
            held.append(True)
        else:
            [other] = [c for c in children_of(arrows, m) if c != w]
            held.append(other in members)
    return found + ["mothers"] * all(held)


def slow_rule(arrows, members, w):
    """Point 38: the rule, or None."""
    return (slow_rules(arrows, members, w) + [None])[0]


def slow_is_knot(arrows, members):
    """Point 39, for a set of inner places."""
    return len(members) > 0 and all(slow_rules(arrows, members, w) for w in members)


def slow_knots(arrows, members):
    """All knots among the members, by looking at each part of them."""
    members = sorted(set(members))
    parts = [part for many in range(1, len(members) + 1) for part in combinations(members, many)]
    return [list(part) for part in parts if slow_is_knot(arrows, part)]


def slow_greatest(arrows, members):
    """All members of all knots among the members."""
    return sorted({place for knot in slow_knots(arrows, members) for place in knot})


def slow_core(arrows):
    """Point 41."""
    knot = slow_greatest(arrows, inner_of(arrows))
    core = list(knot)
    for place in knot:
        if place in core:
            smaller = slow_greatest(arrows, [member for member in core if member != place])
            core = smaller or core
    return core


def slow_stuck(arrows, leaves):
    """Whether the least row ends with a net of more than one place."""
    return slow_least(arrows, leaves)[1][0] != []


def slow_alike(one, other):
    """Point 15: whether some matching of the inner places makes the one net the other one."""
    (arrows, leaves), (others, names) = one, other
    if sorted(name for place, name in leaves) != sorted(name for place, name in names):
        return False
    ends = {place: [p for p, n in names if n == name][0] for place, name in leaves}
    sorts = [[p for p in inner_of(arrows) if kind_of(arrows, p) == kind] for kind in ("split", "mixing")]
    wanted = [[p for p in inner_of(others) if kind_of(others, p) == kind] for kind in ("split", "mixing")]
    if [len(places) for places in sorts] != [len(places) for places in wanted]:
        return False
    for splits in permutations(wanted[0]):
        for mixings in permutations(wanted[1]):
            matched = {**ends, **dict(zip(sorts[0], splits)), **dict(zip(sorts[1], mixings))}
            if {(matched[u], matched[v]) for u, v in arrows} == set(others):
                return True
    return False
