"""Names that quarrel in two trees, and papers which show that a net of both trees has many mixings."""

from itertools import combinations

from levelgifts.faults import BadValue
from levelgifts.trees import demand_like_trees, outer_of, tree_clusters, tree_names

MOST_NAMES = 8


def quarrels(first, second):
    """The ascending list of the triples of names whose outer one is not the same in the two trees."""
    demand_like_trees([first, second], bounds=(MOST_NAMES, MOST_NAMES))
    names = tree_names(first)
    triples = list(combinations(names, 3))
    return [triple for triple in triples if outer_of(first, *triple) != outer_of(second, *triple)]


def span(tree, triple):
    """The clusters of the tree that have one or two of the three names, ascending."""
    names = tree_names(tree)
    if not isinstance(triple, tuple) or len(triple) != 3 or triple != tuple([name for name in names if name in triple]):
        raise BadValue(triple)
    return [cluster for cluster in tree_clusters(tree) if 1 <= len([name for name in triple if name in cluster]) <= 2]


def is_bound_paper(first, second, paper):
    """Whether the paper is quarrelling triples whose spans in the first tree have no cluster in common."""
    found = quarrels(first, second)
    if not isinstance(paper, list) or paper != [triple for triple in found if triple in paper]:
        return False
    return _are_apart(first, paper)


def bound_paper(first, second):
    """The bound paper that takes each quarrelling triple, in ascending order, that it can take."""
    taken = []
    for triple in quarrels(first, second):
        if _are_apart(first, taken + [triple]):
            taken.append(triple)
    return taken


def _are_apart(tree, triples):
    """Whether the spans of the triples in the tree have no cluster in common."""
    clusters = [cluster for triple in triples for cluster in span(tree, triple)]
    return len(set(clusters)) == len(clusters)
