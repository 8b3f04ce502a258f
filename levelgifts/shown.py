"""The trees that a net shows, each by a choice of one mother for each mixing."""

from levelgifts.faults import BadPaper, TooMany
from levelgifts.treebased import is_choice
from levelgifts.trees import demand_tree, joined, tree_clusters, tree_text

MOST_MIXINGS = 6


def choices(net):
    """The ascending list of all choices."""
    _demand_few_mixings(net)
    found = [[]]
    for mixing in net.mixings():
        found = [choice + [(mixing, mother)] for choice in found for mother in net.mothers(mixing)]
    return found


def tree_by_choice(net, paper):
    """The tree of the choice."""
    if not is_choice(net, paper):
        raise BadPaper("choice")
    return _tree_below(net, net.root, {mixing: mother for mixing, mother in paper})


def shown_trees(net):
    """Pairs of each tree that the net shows and of how many choices have it, ascending by the texts of the trees."""
    trees = [tree_by_choice(net, choice) for choice in choices(net)]
    texts = [tree_text(tree) for tree in trees]
    return [(trees[texts.index(text)], texts.count(text)) for text in sorted(set(texts))]


def count_shown(net):
    """The number of different trees that the net shows, and the number of its choices."""
    counts = [count for tree, count in shown_trees(net)]
    return len(counts), sum(counts)


def find_showing(net, tree):
    """The least choice that has the tree, or None."""
    demand_tree(tree)
    for choice in choices(net):
        if tree_by_choice(net, choice) == tree:
            return choice
    return None


def is_showing(net, tree, paper):
    """Whether the paper is a choice that has the tree."""
    demand_tree(tree)
    return is_choice(net, paper) and tree_by_choice(net, paper) == tree


def soft_clusters(net):
    """The clusters of all trees that the net shows, as tuples, ascending and without duplicates."""
    return sorted(set([cluster for tree, count in shown_trees(net) for cluster in tree_clusters(tree)]))


def _demand_few_mixings(net):
    """Raises the error that is due if the net has too many mixings for a list of all its choices."""
    many = len(net.mixings())
    if many > MOST_MIXINGS:
        raise TooMany("mixings", many)


def _tree_below(net, place, kept):
    """The tree from the place on, by the arrows from the kept mothers, or None if they lead to no leaf."""
    name = net.name_of(place)
    if name is not None:
        return name
    below = [_tree_below(net, child, kept) for child in net.children(place) if kept.get(child, place) == place]
    trees = [tree for tree in below if tree is not None]
    if not trees:
        return None
    return trees[0] if len(trees) == 1 else joined(*trees)
