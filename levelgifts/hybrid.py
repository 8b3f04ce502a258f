"""Few gifts for several trees: rows of pairs that pluck all of them down to one name."""

from levelgifts.faults import BadPaper
from levelgifts.pairs import is_name_pair
from levelgifts.pluck import build
from levelgifts.shape import MOST_MIXINGS, is_name
from levelgifts.trees import demand_like_trees, demand_tree, joined, tree_names, tree_text

# The most names of two trees, and of three, for which the least common row is looked for.
MOST_NAMES = (5, 4)


def pluck_tree(tree, pair):
    """The tree that is left behind the pair; the same tree if the two names are no sisters in it."""
    demand_tree(tree)
    return _plucked(tree, pair)


def is_common_row(trees, paper):
    """Whether the paper is a row whose pairs each change a tree and bring all trees down to the same name."""
    demand_like_trees(trees)
    return _last_name(trees, paper) is not None


def net_of_common_row(trees, row):
    """The net that the common row plucks down; it shows all the trees."""
    demand_like_trees(trees)
    last = _last_name(trees, row)
    if last is None:
        raise BadPaper("row")
    return build(row, last=last)


def common_row(trees):
    """The first one in ascending order of the common rows with the fewest pairs."""
    demand_like_trees(trees, bounds=MOST_NAMES)
    ends = [([], list(trees))]
    met = {}
    while True:
        for row, left in ends:
            if _one_name(left) is not None:
                return row
        ends = _longer_rows(ends, met)


def least_gifts(trees):
    """The cost of the least common row."""
    row = common_row(trees)
    return len(row) - len(tree_names(trees[0])) + 1


def _plucked(tree, pair):
    """The tree that is left behind the pair."""
    if is_name(tree):
        return tree
    if tree in (pair, pair[::-1]):
        return pair[1]
    left, right = [_plucked(part, pair) for part in tree]
    return joined(left, right)


def _one_name(trees):
    """The single name that each of the trees is, or None."""
    return trees[0] if is_name(trees[0]) and trees.count(trees[0]) == len(trees) else None


def _last_name(trees, paper):
    """The name to which the plain value brings the trees down, or None if it is no common row of them."""
    if not isinstance(paper, list) or not all([is_name_pair(pair) for pair in paper]):
        return None
    # Each pair but those that bring a mixing takes out one name, and all names but one go.
    if len(paper) > len(tree_names(trees[0])) - 1 + MOST_MIXINGS:
        return None
    for pair in paper:
        left = [_plucked(tree, pair) for tree in trees]
        if left == trees:
            return None
        trees = left
    return _one_name(trees)


def _longer_rows(ends, met):
    """The rows with one more pair, ascending, each with the trees that it leaves; those that were met are left out."""
    longer = []
    for row, trees in ends:
        for pair in sorted(set([sisters for tree in trees for sisters in _sister_pairs(tree)])):
            left = [_plucked(tree, pair) for tree in trees]
            texts = tuple([tree_text(tree) for tree in left])
            # The first row that leaves these trees is the least one of those that do.
            if texts not in met:
                met[texts] = True
                longer.append((row + [pair], left))
    return longer


def _sister_pairs(tree):
    """The pairs that change the tree."""
    if is_name(tree):
        return []
    left, right = tree
    if is_name(left) and is_name(right):
        return [(left, right), (right, left)]
    return _sister_pairs(left) + _sister_pairs(right)
