"""Slow plain readings of points 58 to 60, over the two lists of a net."""

from slow_kinds import slow_choices
from slow_rows import children_of, mothers_of
from slow_trees import slow_clusters, slow_names


def slow_tree(arrows, leaves, choice):
    """Point 58: the tree of a choice, by the told steps."""
    kept, names = dict(choice), dict(leaves)
    places = {end for arrow in arrows for end in arrow} | set(names)
    arrows = {(u, v) for u, v in arrows if v not in kept or kept[v] == u}
    while True:
        bare = {place for place in places if place not in names and not children_of(arrows, place)}
        if not bare:
            break
        places -= bare
        arrows = {(u, v) for u, v in arrows if v not in bare}
    for place in sorted(places):
        below, above = children_of(arrows, place), mothers_of(arrows, place)
        if len(below) == 1:
            places.remove(place)
            arrows = {(u, v) for u, v in arrows if place not in (u, v)} | {(u, below[0]) for u in above}
    [root] = [place for place in places if not mothers_of(arrows, place)]
    return value_of(arrows, names, root)


def value_of(arrows, names, place):
    """The form of point 55."""
    if place in names:
        return names[place]
    one, other = [value_of(arrows, names, child) for child in children_of(arrows, place)]
    return (one, other) if min(slow_names(one)) < min(slow_names(other)) else (other, one)


def slow_text_of(tree):
    """The text of a tree, by what Python writes of it."""
    return repr(tree).translate({ord("'"): None, ord(" "): None}) + ";"


def slow_shown(arrows, leaves):
    """The trees that a net shows and how many choices have each, ascending by their texts."""
    trees = [slow_tree(arrows, leaves, choice) for choice in slow_choices(arrows)]
    return sorted({(tree, trees.count(tree)) for tree in trees}, key=lambda pair: slow_text_of(pair[0]))


def slow_soft(arrows, leaves):
    """Point 60."""
    return sorted({cluster for tree, count in slow_shown(arrows, leaves) for cluster in slow_clusters(tree)})
