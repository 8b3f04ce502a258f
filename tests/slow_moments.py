"""Slow plain readings of points 29 to 34, over the two lists of a net."""

from itertools import product


def places_of(arrows, leaves):
    return sorted({end for arrow in arrows for end in arrow} | {place for place, name in leaves})


def slow_moment_fault(arrows, leaves, paper):
    """Point 30, read as plainly as can be."""
    places = places_of(arrows, leaves)
    if type(paper) is not list or len(paper) != len(places):
        return ("form", None)
    for pair, place in zip(paper, places):
        if type(pair) is not tuple or len(pair) != 2 or [type(item) for item in pair] != [int, int]:
            return ("form", None)
        if pair[0] != place:
            return ("form", None)
    at = dict(paper)
    mothers = {p: [u for u, v in arrows if v == p] for p in places}
    children = {p: [v for u, v in arrows if u == p] for p in places}
    back = [(u, v) for u, v in arrows if at[u] > at[v] or at[u] == at[v] and len(mothers[v]) != 2]
    if back:
        return ("back", min(back))
    gift = [p for p in places if len(mothers[p]) == 2 and sum(at[u] == at[p] for u in mothers[p]) != 1]
    if gift:
        return ("gift", min(gift))
    late = [p for p in places if children[p] and not any(at[v] > at[p] for v in children[p])]
    if late:
        return ("late", min(late))
    return None


def slow_downward(arrows, leaves):
    """Point 14."""
    places, listed = places_of(arrows, leaves), []
    while len(listed) < len(places):
        ready = [p for p in places if p not in listed and all(u in listed for u, v in arrows if v == p)]
        listed.append(min(ready))
    return listed


def slow_all(arrows, leaves, ranks):
    """Point 34: all papers that fit, in the told order."""
    ends = {place for place, name in leaves}
    inner = [place for place in slow_downward(arrows, leaves) if place not in ends]
    found = []
    for moments in product(range(ranks), repeat=len(inner)):
        at = dict(zip(inner, moments))
        at.update({place: ranks for place in ends})
        paper = sorted(at.items())
        if slow_moment_fault(arrows, leaves, paper) is None:
            found.append(paper)
    return found


def slow_gifts(arrows, paper):
    at = dict(paper)
    return sorted((u, v) for u, v in arrows if at[u] == at[v])


def slow_tree_arrows(arrows, paper):
    return sorted(arrow for arrow in arrows if arrow not in slow_gifts(arrows, paper))


def slow_tree_leaves(arrows, leaves, paper, place):
    """Point 31: by following each tree arrow from the place."""
    names = dict(leaves)
    found = [names[place]] if place in names else []
    for u, v in slow_tree_arrows(arrows, paper):
        if u == place:
            found += slow_tree_leaves(arrows, leaves, paper, v)
    return sorted(found)


def slow_live(arrows, leaves, paper, moment):
    """Point 32."""
    at = dict(paper)
    above = {v: u for u, v in slow_tree_arrows(arrows, paper)}
    living = []
    for b in places_of(arrows, leaves):
        begun = b not in above or at[above[b]] < moment
        if begun and moment <= at[b]:
            living.append(b)
    return living
