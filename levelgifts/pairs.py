"""Pairs of names: the leaf that can be plucked, and the leaf beside it that stays."""

from levelgifts.faults import NoPair


def is_name_pair(value):
    """Whether the plain value is a pair of strings."""
    if not isinstance(value, tuple) or len(value) != 2:
        return False
    return isinstance(value[0], str) and isinstance(value[1], str)


def pair_word(net, pair):
    """The word "sister" or "freed", or None if the pair cannot be plucked."""
    plucked, stays = [net.place_of(name) for name in pair]
    return _words_beside(net, stays).get(plucked)


def pairs(net):
    """The ascending list of the pairs that can be plucked."""
    found = []
    for stays, name in net.leaves():
        found.extend([(net.name_of(plucked), name) for plucked in _words_beside(net, stays)])
    return sorted(found)


def pair_places(net, pair):
    """The inner places that plucking takes out: the mother of the leaf that stays, then the freed mother."""
    word = pair_word(net, pair)
    if word is None:
        raise NoPair(pair)
    above_plucked, above_stays = [net.mothers(net.place_of(name)) for name in pair]
    if word == "sister":
        return above_stays
    return above_stays + above_plucked


def _words_beside(net, stays):
    """The word of each pair in which the leaf stays, by the place that is plucked. There is one at most."""
    words = {}
    for beside in _sisters(net, stays):
        kind = net.kind_of(beside)
        if kind == "leaf":
            words[beside] = "sister"
        if kind == "mixing":
            # The child of the mixing is a leaf, or nothing can be freed here.
            freed = [child for child in net.children(beside) if net.kind_of(child) == "leaf"]
            words.update({child: "freed" for child in freed})
    return words


def _sisters(net, place):
    """The other children of the mothers of the place."""
    return [child for mother in net.mothers(place) for child in net.children(mother) if child != place]
