"""Net objects, matches of two nets, and new numbers for the places of a net."""

from levelgifts.faults import BadNet, BadPaper, NoLeaf, NoPlace
from levelgifts.shape import is_place_pair, net_fault, places_below, relatives

# The kind of a place with no child, with one and with two.
KIND_BY_CHILDREN = ("leaf", "mixing", "split")


class Net:
    """A net of descent. No method changes it."""

    def __init__(self, arrows, leaves):
        fault = net_fault(arrows, leaves)
        if fault is not None:
            word, at = fault
            raise BadNet(word, at)
        mothers, children = relatives(arrows, leaves)
        self._arrows = sorted(arrows)
        self._leaves = sorted(leaves)
        self._mothers = mothers
        self._children = children
        self._name_at = {place: name for place, name in leaves}
        self._place_at = {name: place for place, name in leaves}
        self._names = sorted(self._place_at)
        self._root = [place for place in mothers if not mothers[place]][0]

    @property
    def root(self):
        """The place without a mother."""
        return self._root

    def places(self):
        """All places, ascending."""
        return list(self._children)

    def inner(self):
        """The splits and the mixings, ascending."""
        return [place for place in self._children if self._children[place]]

    def splits(self):
        """The places with two children, ascending."""
        return [place for place in self._children if len(self._children[place]) == 2]

    def mixings(self):
        """The places with two mothers, ascending."""
        return [place for place in self._mothers if len(self._mothers[place]) == 2]

    def arrows(self):
        """The pairs (mother, child), ascending."""
        return list(self._arrows)

    def leaves(self):
        """The pairs (place, name), ascending."""
        return list(self._leaves)

    def names(self):
        """The names of the leaves, ascending."""
        return list(self._names)

    def mothers(self, place):
        """The mothers of the place, ascending."""
        self._demand(place)
        return list(self._mothers[place])

    def children(self, place):
        """The children of the place, ascending."""
        self._demand(place)
        return list(self._children[place])

    def kind_of(self, place):
        """The word "leaf", "split" or "mixing"."""
        self._demand(place)
        return KIND_BY_CHILDREN[len(self._children[place])]

    def name_of(self, place):
        """The name of the leaf, or None if the place is no leaf."""
        self._demand(place)
        return self._name_at.get(place)

    def place_of(self, name):
        """The place of the leaf with the name."""
        if name not in self._place_at:
            raise NoLeaf(name)
        return self._place_at[name]

    def downward(self):
        """All places, each one behind its mothers, and always the least one that can come next."""
        missing = {place: len(self._mothers[place]) for place in self._mothers}
        ready = [self._root]
        listed = []
        while ready:
            place = min(ready)
            ready.remove(place)
            listed.append(place)
            for child in self._children[place]:
                missing[child] -= 1
                if missing[child] == 0:
                    ready.append(child)
        return listed

    def __eq__(self, other):
        return isinstance(other, Net) and self._arrows == other._arrows and self._leaves == other._leaves

    def __contains__(self, x):
        # A list could not be looked up among the names.
        return isinstance(x, str) and x in self._place_at

    def __iter__(self):
        return iter(self._names)

    def _demand(self, place):
        """Raises the error that is due if the integer is no place of the net."""
        if place not in self._children:
            raise NoPlace(place)


def names_reached(net, place, children):
    """The ascending list of the names of the leaves that are the place or are reached from it by the children."""
    reached = [place] + places_below(place, children)
    return sorted([net.name_of(lower) for lower in reached if net.kind_of(lower) == "leaf"])


def is_match(first, second, paper):
    """Whether the paper is a match of the first net with the second one."""
    if not _is_numbering(first, paper) or paper != sorted(paper):
        return False
    return renumber(first, paper) == second


def invert_match(match):
    """The match of the second net with the first one."""
    return sorted([(second, first) for first, second in match])


def chain_matches(one, other):
    """The match of the first net of the one match with the second net of the other match."""
    ends = {middle: end for middle, end in other}
    return sorted([(place, ends[middle]) for place, middle in one])


def renumber(net, paper):
    """The net in which each place has the new number that the paper tells."""
    if not _is_numbering(net, paper):
        raise BadPaper("numbers")
    numbers = {old: new for old, new in paper}
    arrows = [(numbers[mother], numbers[child]) for mother, child in net.arrows()]
    leaves = [(numbers[place], name) for place, name in net.leaves()]
    return Net(arrows, leaves)


def _is_numbering(net, paper):
    """Whether the paper gives each place of the net, and nothing else, a number of its own."""
    if not isinstance(paper, list) or not all([is_place_pair(pair) for pair in paper]):
        return False
    if sorted([old for old, new in paper]) != net.places():
        return False
    return len(set([new for old, new in paper])) == len(paper)
