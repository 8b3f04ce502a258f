"""Trees as values: a name, or a tuple of two trees, the one with the least name first."""

from levelgifts.faults import BadPaper, BadTree, BadValue, NoLeaf, TooMany, Unlike
from levelgifts.newick import read_newick
from levelgifts.shape import MOST_LEAVES, is_name, same_value


def is_tree(value):
    """Whether the plain value is a tree."""
    names = names_within(value)
    return names is not None and len(names) <= MOST_LEAVES


def tree_text(tree):
    """The text of the tree."""
    demand_tree(tree)
    return _node_text(tree) + ";"


def net_of_tree(tree):
    """The net that is read from the text of the tree."""
    return read_newick(tree_text(tree))


def tree_of_net(net):
    """The tree with the shape of a net without mixings."""
    if net.mixings():
        raise BadTree("mixings")
    return _tree_below(net, net.root)


def read_tree(text):
    """The tree of the net that is read from the text."""
    return tree_of_net(read_newick(text))


def tree_names(tree):
    """The ascending list of the names."""
    demand_tree(tree)
    return sorted(names_within(tree))


def tree_clusters(tree):
    """The ascending list of the clusters of the tree, as tuples."""
    demand_tree(tree)
    return sorted([tuple(sorted(names_within(part))) for part in _parts(tree)])


def tree_from_clusters(paper):
    """The tree that has just the clusters of the paper."""
    if not _are_clusters(paper):
        raise BadPaper("clusters")
    tree = _grown_tree(max(paper, key=len), paper)
    if tree is None or not same_value(paper, tree_clusters(tree)):
        raise BadPaper("clusters")
    return tree


def restrict(tree, names):
    """The tree without the names that are not in the list."""
    demand_tree(tree)
    if not names:
        raise BadValue([])
    _demand_names(tree, names)
    return _restricted(tree, names)


def outer_of(tree, a, b, c):
    """The one of the three names that is not in the smallest cluster with the other two."""
    demand_tree(tree)
    if b == a:
        raise BadValue(b)
    if c in (a, b):
        raise BadValue(c)
    _demand_names(tree, [a, b, c])
    left, right = _restricted(tree, [a, b, c])
    return left if isinstance(right, tuple) else right


def demand_tree(value):
    """Raises the error that is due if the plain value is no tree."""
    if not is_tree(value):
        raise BadTree("form")


def demand_like_trees(trees, *, bounds=(MOST_LEAVES, MOST_LEAVES)):
    """Raises the first error that is due if the list is not two or three trees on the same names, and on few enough."""
    for tree in trees:
        demand_tree(tree)
    if len(trees) not in (2, 3):
        raise BadValue(len(trees))
    named = [tree_names(tree) for tree in trees]
    for name in sorted(set([within for names in named for within in names])):
        if not all([name in names for names in named]):
            raise Unlike(name)
    many = len(named[0])
    # The first bound is that for two trees, the second one that for three.
    if many > bounds[len(trees) - 2]:
        raise TooMany("leaves", many)


def _demand_names(tree, names):
    """Raises the error that is due if one of the strings is no name of the tree."""
    within = names_within(tree)
    for name in names:
        if name not in within:
            raise NoLeaf(name)


def names_within(value):
    """The names within the tree, from left to right, or None if the plain value has not the form of a tree."""
    if is_name(value):
        return [value]
    if not isinstance(value, tuple) or len(value) != 2:
        return None
    left, right = [names_within(part) for part in value]
    if left is None or right is None or min(left) >= min(right):
        return None
    return None if any([name in left for name in right]) else left + right


def _node_text(tree):
    """The text of the tree as a node of a greater one."""
    if is_name(tree):
        return tree
    left, right = [_node_text(part) for part in tree]
    return f"({left},{right})"


def _tree_below(net, place):
    """The tree with the shape of the net from the place on."""
    name = net.name_of(place)
    if name is not None:
        return name
    one, other = [_tree_below(net, child) for child in net.children(place)]
    return joined(one, other)


def joined(one, other):
    """The tree of the two trees."""
    return (one, other) if _first_name(one) < _first_name(other) else (other, one)


def _first_name(tree):
    """The least name of the tree, which stands first in it."""
    return names_within(tree)[0]


def _parts(tree):
    """The tree and all trees inside of it."""
    if is_name(tree):
        return [tree]
    left, right = tree
    return [tree] + _parts(left) + _parts(right)


def _restricted(tree, names):
    """The tree on the names that are in the list, or None if there are none."""
    if is_name(tree):
        return tree if tree in names else None
    left, right = [_restricted(part, names) for part in tree]
    if left is None or right is None:
        return right if left is None else left
    return joined(left, right)


def _are_clusters(paper):
    """Whether the plain value is a list, not empty, of ascending tuples of as many names as a tree may have."""
    return isinstance(paper, list) and len(paper) > 0 and all([_is_cluster(value) for value in paper])


def _is_cluster(value):
    """Whether the plain value is an ascending tuple of one or more names."""
    if not isinstance(value, tuple) or not 1 <= len(value) <= MOST_LEAVES or not all([is_name(name) for name in value]):
        return False
    return list(value) == sorted(set(value))


def _grown_tree(names, clusters):
    """The tree on the names whose left parts are the greatest ones among the clusters, or None."""
    if len(names) == 1:
        return names[0]
    lefts = [cluster for cluster in clusters if _is_left_part(cluster, names)]
    if not lefts:
        return None
    left = max(lefts, key=len)
    right = tuple([name for name in names if name not in left])
    one, other = _grown_tree(left, clusters), _grown_tree(right, clusters)
    return None if one is None or other is None else (one, other)


def _is_left_part(cluster, names):
    """Whether the cluster has the first one of the names, and some of the others, but not all of them."""
    return cluster[0] == names[0] and len(cluster) < len(names) and all([name in names for name in cluster])
