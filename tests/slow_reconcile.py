"""Slow plain readings of points 68 to 71. A net is given as its two lists and moments that fit it."""

from itertools import product

from slow_knots import kind_of
from slow_moments import places_of
from slow_rows import children_of

SIGNS = "abcdefghijklmnopqrstuvwxyz0123456789"


def slow_gene_names(value):
    """The names from left to right, or None if the value is not made of names and of tuples of two."""
    if type(value) is str:
        return [value] if 0 < len(value) < 9 and set(value) <= set(SIGNS) and not value[0].isdigit() else None
    if type(value) is not tuple or len(value) != 2:
        return None
    parts = [slow_gene_names(part) for part in value]
    return None if None in parts else parts[0] + parts[1]


def slow_is_gene(value):
    return slow_gene_names(value) is not None and len(slow_gene_names(value)) < 9


def slow_nodes(gene):
    """The node list of point 68."""
    return [gene] if type(gene) is str else [gene, *slow_nodes(gene[0]), *slow_nodes(gene[1])]


def slow_parts(gene):
    """For each index of the node list, the indexes of the two children, or nothing."""
    if type(gene) is str:
        return [()]
    first, second = slow_parts(gene[0]), slow_parts(gene[1])
    left = [tuple(at + 1 for at in two) for two in first]
    right = [tuple(at + 1 + len(first) for at in two) for two in second]
    return [(1, 1 + len(first))] + left + right


def go_counts(arrows, at, v, child):
    """The counts of the form "go"."""
    [other] = [w for w in children_of(arrows, v) if w != child]
    if at[child] == at[v]:
        return (0, 1, 1)
    return (0, 0, 0) if at[other] == at[v] else (0, 0, 1)


def slow_counts(net, node, v, paper):
    """Point 69: the counts of the paper if it is a history of the node at v, or None."""
    arrows, leaves, moments = net
    at, children, kind = dict(moments), children_of(arrows, v), kind_of(arrows, v)
    if type(paper) is not tuple or len(paper) not in (2, 3, 4) or type(paper[0]) is not str:
        return None
    if type(paper[1]) is not int or paper[1] != v:
        return None
    own, inner = None, []
    if (paper[0], len(paper)) == ("leaf", 2) and (v, node) in leaves:
        own = (0, 0, 0)
    if (paper[0], len(paper)) == ("double", 4) and type(node) is tuple:
        own, inner = (1, 0, 0), [(node[0], v, paper[2]), (node[1], v, paper[3])]
    if (paper[0], len(paper)) == ("down", 3) and kind == "mixing":
        own, inner = (0, 0, 0), [(node, children[0], paper[2])]
    if (paper[0], len(paper)) == ("go", 3) and kind == "split":
        for child in children:
            if type(paper[2]) is tuple and paper[2][1:2] == (child,):
                own, inner = go_counts(arrows, at, v, child), [(node, child, paper[2])]
    if (paper[0], len(paper)) == ("part", 4) and kind == "split" and type(node) is tuple:
        ends = [part[1] if type(part) is tuple and len(part) > 1 else None for part in paper[2:]]
        if None not in ends and ends in (children, children[::-1]):
            own = (0, sum(at[child] == at[v] for child in children), 0)
            inner = [(node[0], ends[0], paper[2]), (node[1], ends[1], paper[3])]
    found = [own] + [slow_counts(net, *part) for part in inner]
    return None if None in found else tuple(map(sum, zip(*found)))


def slow_histories(net, node, v, most=400):
    """Histories of the node at v, each with its counts: all of them, or the first ones if there are many."""
    arrows, leaves, moments = net
    at, children, kind = dict(moments), children_of(arrows, v), kind_of(arrows, v)
    found = [(("leaf", v), (0, 0, 0))] if (v, node) in leaves else []

    def grow(word, counts, *parts):
        for chosen in product(*parts):
            inner = [history for history, _ in chosen]
            found.append(((word, v, *inner), tuple(map(sum, zip(counts, *[told for _, told in chosen])))))

    if type(node) is tuple:
        grow("double", (1, 0, 0), *[slow_histories(net, part, v, most) for part in node])
    if kind == "mixing":
        grow("down", (0, 0, 0), slow_histories(net, node, children[0], most))
    if kind == "split":
        for child in children:
            grow("go", go_counts(arrows, at, v, child), slow_histories(net, node, child, most))
    if kind == "split" and type(node) is tuple:
        given = sum(at[child] == at[v] for child in children)
        for one, other in (children, children[::-1]):
            grow("part", (0, given, 0), slow_histories(net, node[0], one, most), slow_histories(net, node[1], other, most))
    return found[:most]


def slow_prices(net, gene, prices, items):
    """Point 71: for each index of a node and each place, the prices of the forms, the inner ones told by the items."""
    arrows, leaves, moments = net
    at, nodes, parts = dict(moments), slow_nodes(gene), slow_parts(gene)
    places, found = places_of(arrows, leaves), {}
    for i, v in product(range(len(nodes)), places):
        children, forms = children_of(arrows, v), []
        if (v, nodes[i]) in leaves:
            forms.append(((0, 0, 0), []))
        if parts[i]:
            forms.append(((1, 0, 0), [(parts[i][0], v), (parts[i][1], v)]))
        if kind_of(arrows, v) == "mixing":
            forms.append(((0, 0, 0), [(i, children[0])]))
        if kind_of(arrows, v) == "split":
            forms += [(go_counts(arrows, at, v, child), [(i, child)]) for child in children]
            if parts[i]:
                given = sum(at[child] == at[v] for child in children)
                for one, other in (children, children[::-1]):
                    forms.append(((0, given, 0), [(parts[i][0], one), (parts[i][1], other)]))
        told = [(counts, [items(j, w) for j, w in inner]) for counts, inner in forms]
        found[i, v] = [sum(a * b for a, b in zip(counts, prices)) + sum(inner) for counts, inner in told if None not in inner]
    return found


def slow_table(net, gene, prices):
    """The price table, by going over all forms again and again until nothing changes."""
    places, best = places_of(*net[:2]), {}
    while True:
        found = slow_prices(net, gene, prices, lambda i, v: best.get((i, v)))
        found = {spot: min(found[spot], default=None) for spot in found}
        if found == best:
            return [[best[i, v] for v in places] for i in range(len(slow_nodes(gene)))]
        best = found


def slow_is_floor(net, gene, prices, paper):
    """Point 71, for any plain value."""
    places, rows = places_of(*net[:2]), len(slow_nodes(gene))
    if type(paper) is not list or len(paper) != rows or any(type(row) is not list for row in paper):
        return False
    if any(len(row) != len(places) or any(type(item) not in (int, type(None)) for item in row) for row in paper):
        return False
    found = slow_prices(net, gene, prices, lambda i, v: paper[i][places.index(v)])
    for i, v in found:
        item = paper[i][places.index(v)]
        if item is None and found[i, v] or item is not None and found[i, v] and item > min(found[i, v]):
            return False
    return True
