"""Slow plain readings of points 61 to 67, over trees as values."""

from itertools import combinations

from slow_trees import slow_clusters, slow_names, slow_outer, slow_restrict


def slow_pluck_tree(tree, pair):
    """Point 61: two names are sisters if they are a cluster."""
    if pair[0] == pair[1] or tuple(sorted(pair)) not in slow_clusters(tree):
        return tree
    return slow_restrict(tree, [name for name in slow_names(tree) if name != pair[0]])


def slow_last(trees, row):
    """Point 62: the single name to which a row of pairs brings the trees, or None if it is no common row."""
    if len(row) > len(slow_names(trees[0])) + 7:
        return None
    for pair in row:
        left = [slow_pluck_tree(tree, pair) for tree in trees]
        if all(one == other for one, other in zip(left, trees)):
            return None
        trees = left
    return trees[0] if type(trees[0]) is str and len(set(trees)) == 1 else None


def changing_pairs(trees):
    """The pairs, ascending, that change at least one of the trees."""
    two = [cluster for tree in trees for cluster in slow_clusters(tree) if len(cluster) == 2]
    return sorted({pair for x, y in two for pair in ((x, y), (y, x))})


def first_row(trees, many):
    """The first common row in ascending order with so many pairs, found by trying all rows, or None."""
    # Each pair takes at most one name out of a tree.
    if max(len(slow_names(tree)) for tree in trees) - 1 > many:
        return None
    if many == 0:
        return [] if len(set(trees)) == 1 else None
    for pair in changing_pairs(trees):
        rest = first_row([slow_pluck_tree(tree, pair) for tree in trees], many - 1)
        if rest is not None:
            return [pair] + rest
    return None


def slow_common(trees):
    """Point 64."""
    return next(row for row in (first_row(trees, many) for many in range(13)) if row is not None)


def slow_quarrels(first, second):
    """Point 66."""
    triples = combinations(sorted(slow_names(first)), 3)
    return [three for three in triples if slow_outer(first, three) != slow_outer(second, three)]


def slow_span(tree, three):
    """Point 66: the clusters that part the three names."""
    return [cluster for cluster in slow_clusters(tree) if len(set(three) - set(cluster)) in (1, 2)]


def slow_is_bound(first, second, triples):
    """Point 66, for a list of triples of names."""
    found = slow_quarrels(first, second)
    if any(three not in found for three in triples):
        return False
    if any(not one < other for one, other in zip(triples, triples[1:])):
        return False
    spans = [set(slow_span(first, three)) for three in triples]
    return not any(one & other for one, other in combinations(spans, 2))


def slow_bound(first, second):
    """Point 67."""
    taken = []
    for three in slow_quarrels(first, second):
        if all(not set(slow_span(first, three)) & set(slow_span(first, other)) for other in taken):
            taken.append(three)
    return taken
