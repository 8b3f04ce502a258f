"""Clusters: sets of names, and those of the places of a net."""

from levelgifts.faults import BadName, NoPlace
from levelgifts.nets import names_reached
from levelgifts.shape import is_name


class Cluster:
    """A set of names. No method changes it."""

    def __init__(self, names):
        for name in names:
            if not is_name(name):
                raise BadName(name)
        self._names = sorted(set(names))

    def names(self):
        """The names, ascending."""
        return list(self._names)

    @property
    def size(self):
        """The number of the names."""
        return len(self._names)

    def __and__(self, other):
        return Cluster([name for name in self._names if name in other._names])

    def __or__(self, other):
        return Cluster(self._names + other._names)

    def __sub__(self, other):
        return Cluster([name for name in self._names if name not in other._names])

    def __eq__(self, other):
        return isinstance(other, Cluster) and self._names == other._names

    def __contains__(self, x):
        return x in self._names

    def __bool__(self):
        return bool(self._names)

    def __iter__(self):
        return iter(self._names)

    def inside_of(self, other):
        """Whether each name is in the other cluster."""
        return all([name in other._names for name in self._names])

    def fits(self, other):
        """Whether the two have no name in common, or one is a part of the other."""
        apart = not any([name in other._names for name in self._names])
        return apart or self.inside_of(other) or other.inside_of(self)


def cluster_of(net, place):
    """The cluster of the names of the leaves that are the place or below it."""
    children = {upper: net.children(upper) for upper in net.places()}
    if place not in children:
        raise NoPlace(place)
    return Cluster(names_reached(net, place, children))


def hard_clusters(net):
    """The names of the clusters of all places, as ascending tuples, ascending and without duplicates."""
    return sorted(set([tuple(cluster_of(net, place).names()) for place in net.places()]))
