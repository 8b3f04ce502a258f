"""Slow plain readings of points 55 and 57, over trees as values."""

from itertools import combinations

SIGNS = "abcdefghijklmnopqrstuvwxyz0123456789"


def slow_names(value):
    """All names in the value from left to right, as far as it is made of tuples."""
    return [value] if type(value) is str else [name for part in value for name in slow_names(part)]


def slow_is_tree(value, most=12):
    """Point 55."""
    if type(value) is str:
        return 0 < len(value) < 9 and set(value) <= set(SIGNS) and not value[0].isdigit()
    if type(value) is not tuple or len(value) != 2 or not all(slow_is_tree(part, 10 ** 6) for part in value):
        return False
    left, right = [sorted(slow_names(part)) for part in value]
    return len(left + right) <= most and not set(left) & set(right) and left[0] < right[0]


def slow_clusters(tree):
    """Point 55: the clusters, each once, ascending."""
    inside = [] if type(tree) is str else [cluster for part in tree for cluster in slow_clusters(part)]
    return sorted(inside + [tuple(sorted(slow_names(tree)))])


def slow_restrict(tree, names):
    """Point 57, by the clusters: those of the restricted tree are what is left of those of the tree."""
    left = {tuple(name for name in cluster if name in names) for cluster in slow_clusters(tree)} - {()}
    return tree_of(sorted(names), left)


def tree_of(names, clusters):
    """The tree with these names and these clusters."""
    if len(names) == 1:
        return names[0]
    for one, other in combinations(sorted(clusters), 2):
        if sorted(one + other) == sorted(names):
            return tree_of(one, clusters), tree_of(other, clusters)
    raise AssertionError("no tree")


def slow_outer(tree, three):
    """Point 57: the one that is not in the smallest cluster with the other two."""
    found = []
    for name in three:
        others = [other for other in three if other != name]
        least = min((cluster for cluster in slow_clusters(tree) if set(others) <= set(cluster)), key=len)
        found += [name] * (name not in least)
    [outer] = found
    return outer


def all_trees(names):
    """All trees on the ascending names."""
    if len(names) == 1:
        return [names[0]]
    found = []
    for many in range(len(names) - 1):
        for rest in combinations(names[1:], many):
            left = [names[0], *rest]
            right = [name for name in names if name not in left]
            found += [(one, other) for one in all_trees(left) for other in all_trees(right)]
    return found


def random_tree(chance, names):
    """A random tree on the names."""
    trees = list(names)
    while len(trees) > 1:
        chance.shuffle(trees)
        one, other = trees.pop(), trees.pop()
        trees.append((one, other) if min(slow_names(one)) < min(slow_names(other)) else (other, one))
    return trees[0]
