"""Slow plain readings of points 72 to 76, over the two lists of a net and moments that fit it."""

from itertools import permutations

from slow_knots import kind_of
from slow_moments import places_of, slow_gifts, slow_live, slow_tree_leaves


def slow_is_order(net, paper):
    """Point 72, for any plain value."""
    arrows, leaves, moments = net
    if type(paper) is not list or any(type(name) is not str for name in paper):
        return False
    if sorted(paper) != sorted(name for place, name in leaves):
        return False
    for place in places_of(arrows, leaves):
        names = slow_tree_leaves(arrows, leaves, moments, place)
        runs = [paper[k:k + len(names)] for k in range(len(paper))]
        if not any(sorted(run) == names for run in runs):
            return False
    return True


def slow_orders(net):
    """Point 72: all orders, ascending, by trying all rows of the names."""
    names = sorted(name for place, name in net[1])
    return [list(row) for row in permutations(names) if slow_is_order(net, list(row))]


def first_index(net, order, place):
    """Point 73: the least index of a tree leaf of the place."""
    return min(order.index(name) for name in slow_tree_leaves(*net, place))


def slow_lines(net, order, moment):
    """Point 73: the lower ends of the lines at the moment, from left to right."""
    return sorted(slow_live(*net, moment), key=lambda place: first_index(net, order, place))


def slow_crossings(net, order):
    """Point 73."""
    arrows, leaves, moments = net
    many = 0
    for giver, mixing in slow_gifts(arrows, moments):
        ends = sorted([first_index(net, order, giver), first_index(net, order, mixing)])
        for line in slow_live(*net, dict(moments)[giver]):
            many += ends[0] < first_index(net, order, line) < ends[1]
    return many


def slow_best(net):
    """Point 74."""
    orders = slow_orders(net)
    fewest = min(slow_crossings(net, order) for order in orders)
    return next(order for order in orders if slow_crossings(net, order) == fewest)


def slow_layers(net, order):
    """Point 75."""
    arrows, leaves, moments = net
    inner = {u for u, v in arrows}
    return [(moment, slow_lines(net, order, moment)) for moment in sorted({dict(moments)[place] for place in inner})]


def slow_sign(net, order, moment, offset):
    """Point 76: the character at the offset of the string of a layer."""
    arrows, leaves, moments = net
    at, given = dict(moments), [gift for gift in slow_gifts(arrows, moments) if dict(moments)[gift[0]] == moment]
    for b in slow_live(arrows, leaves, moments, moment):
        if 2 * first_index(net, order, b) == offset:
            if at[b] > moment:
                return "|"
            if b in [giver for giver, mixing in given]:
                return "o"
            return {"leaf": ".", "split": "+", "mixing": "x"}[kind_of(arrows, b)]
    for gift in given:
        ends = [2 * first_index(net, order, end) for end in gift]
        if min(ends) < offset < max(ends):
            return "-"
    return " "


def slow_draw(net, order):
    """Point 76."""
    wide = range(2 * len(order) - 1)
    drawn = ["".join(slow_sign(net, order, moment, offset) for offset in wide) for moment, lines in slow_layers(net, order)]
    return drawn + [" ".join(order)]
