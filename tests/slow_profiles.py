"""Slow plain readings of points 44 to 48, over the two lists of a net."""

from collections import Counter

from slow_knots import inner_of, kind_of
from slow_rows import children_of


def chains(arrows, start, end):
    """All chains of places from the start to the end."""
    found = [[start]] if start == end else []
    for child in children_of(arrows, start):
        found += [[start] + chain for chain in chains(arrows, child, end)]
    return found


def slow_ways(arrows, leaves, place):
    """Point 44, by listing all chains."""
    return tuple(len(chains(arrows, place, end)) for name, end in sorted((name, end) for end, name in leaves))


def slow_profile(arrows, leaves):
    """Point 45."""
    return sorted(name for place, name in leaves), sorted(slow_ways(arrows, leaves, place) for place in inner_of(arrows))


def slow_stack_free(arrows):
    """Point 45."""
    return not any(kind_of(arrows, u) == "mixing" == kind_of(arrows, v) for u, v in arrows)


def slow_gap(one, other):
    """Point 46."""
    rows, others = Counter(slow_profile(*one)[1]), Counter(slow_profile(*other)[1])
    return sum(((rows - others) + (others - rows)).values())


def slow_steps(paper):
    """Point 47 over a pair of the form of a profile: the pairs, and what is left of the names and rows."""
    names, rows = paper
    rows = [dict(zip(names, row)) for row in rows]
    names, found = set(names), []
    while True:
        def has(*ones):
            return {name: int(name in ones) for name in names} in rows
        words = {}
        for x in names:
            for y in names - {x}:
                if has(x, y) and not has(y):
                    words[x, y] = "freed" if has(x) else "sister"
        if not words:
            return found, sorted(names), rows
        x, y = pair = min(words)
        found.append(pair)
        rows.remove({name: int(name in pair) for name in names})
        if words[pair] == "sister":
            names.discard(x)
            rows = [{name: row[name] for name in names} for row in rows]
        else:
            rows.remove({name: int(name == x) for name in names})
            rows = [{**row, x: row[x] - row[y]} for row in rows]
