"""Gene trees within a net: their histories, the prices of these, and floors that no price is below."""

from levelgifts.faults import BadTree, BadValue
from levelgifts.momentjudge import times_of
from levelgifts.shape import is_name, is_whole

MOST_NAMES = 8
HIGHEST_PRICE = 999


def is_gene_tree(value):
    """Whether the plain value is a gene tree."""
    names = _names_within(value)
    return names is not None and len(names) <= MOST_NAMES


def gene_nodes(gene):
    """The gene tree and all gene trees inside of it, each ahead of its children."""
    _demand_gene(gene)
    return _nodes_within(gene)


def history_counts(net, moments, gene, paper):
    """The numbers of doubles, gifts and losses if the paper is a history of the gene tree, otherwise None."""
    _demand_gene(gene)
    forms = _all_forms(net, moments, gene)
    return _counts(forms, (0, net.root), paper)


def is_history(net, moments, gene, paper):
    """Whether the paper is a history of the gene tree."""
    return history_counts(net, moments, gene, paper) is not None


def least_price(net, moments, gene, *, prices=(2, 3, 1)):
    """The least price of a history of the gene tree."""
    _demand_gene(gene)
    _demand_prices(prices)
    return _least_prices(_all_forms(net, moments, gene), prices)[(0, net.root)]


def find_history(net, moments, gene, *, prices=(2, 3, 1)):
    """A history of the gene tree that has the least price."""
    _demand_gene(gene)
    _demand_prices(prices)
    forms = _all_forms(net, moments, gene)
    return _cheapest(forms, _least_prices(forms, prices), prices, (0, net.root))


def price_table(net, moments, gene, *, prices=(2, 3, 1)):
    """For each node of the gene tree, and each place, the least price of a history, or None if there is none."""
    _demand_gene(gene)
    _demand_prices(prices)
    least = _least_prices(_all_forms(net, moments, gene), prices)
    places = net.places()
    return [[least[(at, place)] for place in places] for at in range(len(_nodes_within(gene)))]


def is_floor(net, moments, gene, paper, *, prices=(2, 3, 1)):
    """Whether the paper is a floor of the prices of the histories."""
    _demand_gene(gene)
    _demand_prices(prices)
    forms = _all_forms(net, moments, gene)
    if not _has_floor_form(paper, len(_nodes_within(gene)), len(net.places())):
        return False
    items = {(at, place): item for at, row in enumerate(paper) for place, item in zip(net.places(), row)}
    return all([_is_low_enough(items[spot], _form_prices(forms[spot], prices, items)) for spot in forms])


def _names_within(value):
    """The names within the gene tree, from left to right, or None if the plain value has not the form of one."""
    if is_name(value):
        return [value]
    if not isinstance(value, tuple) or len(value) != 2:
        return None
    left, right = [_names_within(part) for part in value]
    return None if left is None or right is None else left + right


def _nodes_within(gene):
    """The node list."""
    if is_name(gene):
        return [gene]
    left, right = gene
    return [gene] + _nodes_within(left) + _nodes_within(right)


def _demand_gene(value):
    """Raises the error that is due if the plain value is no gene tree."""
    if not is_gene_tree(value):
        raise BadTree("form")


def _demand_prices(value):
    """Raises the error that is due if the plain value is not three prices."""
    if not isinstance(value, tuple) or len(value) != 3:
        raise BadValue(value)
    if not all([is_whole(price) and 0 <= price <= HIGHEST_PRICE for price in value]):
        raise BadValue(value)


def _all_forms(net, moments, gene):
    """The forms of the histories by their spots, pairs of the index of a node and a place. Those within come first."""
    for name in _names_within(gene):
        # This raises the error that is due if the net has no such leaf.
        net.place_of(name)
    times = times_of(net, moments)
    nodes = _nodes_within(gene)
    upward = net.downward()[::-1]
    spots = [(at, place) for at in reversed(range(len(nodes))) for place in upward]
    return {spot: _forms(net, times, nodes, spot) for spot in spots}


def _forms(net, times, nodes, spot):
    """The forms that a history at the spot may have, each a triple: its word, its own counts, the spots within it."""
    at, place = spot
    found = []
    if nodes[at] == net.name_of(place):
        found.append(("leaf", (0, 0, 0), []))
    parts = _part_indexes(nodes, at)
    if parts:
        found.append(("double", (1, 0, 0), [(part, place) for part in parts]))
    children = net.children(place)
    if len(children) == 1:
        found.append(("down", (0, 0, 0), [(at, children[0])]))
    if len(children) == 2:
        found.extend(_split_forms(times, spot, parts, children))
        found.extend(_split_forms(times, spot, parts, children[::-1]))
    return found


def _part_indexes(nodes, at):
    """The indexes of the two children of the node with the index, or nothing if the node is a name."""
    if is_name(nodes[at]):
        return []
    return [at + 1, at + 1 + len(_nodes_within(nodes[at][0]))]


def _split_forms(times, spot, parts, children):
    """The forms at a split in which the first child is the one to which the line, or its first part, goes."""
    at, place = spot
    child, other = children
    given, beside = [int(times[lower] == times[place]) for lower in children]
    found = []
    if parts:
        found.append(("part", (0, given + beside, 0), [(parts[0], child), (parts[1], other)]))
    # A line that goes on where a gift leaves it behind loses nothing.
    found.append(("go", (0, given, 1 - beside), [(at, child)]))
    return found


def _counts(forms, spot, paper):
    """The counts of the plain value if it is a history at the spot, otherwise None."""
    if not isinstance(paper, tuple) or len(paper) < 2:
        return None
    word, place, *inner = paper
    if not is_whole(place) or place != spot[1]:
        return None
    for told, counts, below in forms[spot]:
        if word == told and len(inner) == len(below):
            found = [_counts(forms, lower, part) for lower, part in zip(below, inner)]
            if None not in found:
                return tuple([sum(column) for column in zip(counts, *found)])
    return None


def _form_prices(told, prices, items):
    """The prices of those of the forms that have one, by the items that the spots within them have."""
    found = []
    for _, counts, below in told:
        inner = [items[lower] for lower in below]
        if None not in inner:
            found.append(sum([many * price for many, price in zip(counts, prices)]) + sum(inner))
    return found


def _least_prices(forms, prices):
    """The least price of a history at each spot, or None, in a dict."""
    least = {}
    for spot in forms:
        least[spot] = min(_form_prices(forms[spot], prices, least), default=None)
    return least


def _cheapest(forms, least, prices, spot):
    """A history at the spot that has the least price."""
    fitting = [form for form in forms[spot] if _form_prices([form], prices, least) == [least[spot]]]
    word, _, below = fitting[0]
    parts = [_cheapest(forms, least, prices, lower) for lower in below]
    return (word, spot[1], *parts)


def _has_floor_form(paper, rows, columns):
    """Whether the plain value is a list of so many lists, each of so many items, integers or None."""
    if not isinstance(paper, list) or len(paper) != rows:
        return False
    if not all([isinstance(row, list) and len(row) == columns for row in paper]):
        return False
    return all([item is None or is_whole(item) for row in paper for item in row])


def _is_low_enough(item, found):
    """Whether the item of a floor is at most the least of the prices, or None if there is no price."""
    if item is None:
        return not found
    return not found or item <= min(found)
