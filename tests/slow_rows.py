"""Slow plain readings of points 23 to 28, over the two lists of a net."""


def mothers_of(arrows, place):
    return [u for u, v in arrows if v == place]


def children_of(arrows, place):
    return [v for u, v in arrows if u == place]


def slow_word(arrows, leaves, pair):
    """Point 23: the word of a pair of two leaves' names, or None."""
    x, y = [[place for place, name in leaves if name == wanted][0] for wanted in pair]
    if x == y:
        return None
    for p in mothers_of(arrows, y):
        if p in mothers_of(arrows, x) and len(children_of(arrows, p)) == 2:
            return "sister"
        for m in mothers_of(arrows, x):
            mixing = len(mothers_of(arrows, m)) == 2
            if mixing and p in mothers_of(arrows, m) and len(children_of(arrows, p)) == 2:
                return "freed"
    return None


def slow_pairs(arrows, leaves):
    """Point 23: all pairs that can be plucked, ascending."""
    names = sorted(name for place, name in leaves)
    return [(x, y) for x in names for y in names if slow_word(arrows, leaves, (x, y)) is not None]


def slow_pluck(arrows, leaves, pair):
    """Point 24: the two lists behind a pair that can be plucked, ascending."""
    x, y = [[place for place, name in leaves if name == wanted][0] for wanted in pair]
    word = slow_word(arrows, leaves, pair)
    p = mothers_of(arrows, y)[0]
    above = mothers_of(arrows, p)
    out = {p, x}
    added = [(g, y) for g in above]
    if word == "freed":
        m = mothers_of(arrows, x)[0]
        others = [q for q in mothers_of(arrows, m) if q != p]
        assert len(above) == 1 and len(others) == 1
        out = {p, m}
        added = [(above[0], y), (others[0], x)]
    kept = [(u, v) for u, v in arrows if u not in out and v not in out]
    return sorted(kept + added), sorted((place, name) for place, name in leaves if place not in out)


def slow_put_back(arrows, leaves, pair):
    """Point 25: the two lists with the pair put back, ascending."""
    taken = {end for arrow in arrows for end in arrow} | {place for place, name in leaves}
    p, new = [number for number in range(100) if number not in taken][:2]
    names = {name: place for place, name in leaves}
    y = names[pair[1]]
    found = []
    for u, v in arrows:
        found += [(u, p), (p, v)] if v == y else [(u, v)]
    if len(taken) == 1:
        found = [(p, y)]
    if pair[0] not in names:
        return sorted(found + [(p, new)]), sorted(leaves + [(new, pair[0])])
    x = names[pair[0]]
    arrows, found = found, []
    for u, v in arrows:
        found += [(u, new), (new, v)] if v == x else [(u, v)]
    return sorted(found + [(p, new)]), sorted(leaves)


def slow_follow(arrows, leaves, row):
    """Point 26: the two lists behind each pair, and the index of the first pair that cannot be plucked or None."""
    found = []
    for at, pair in enumerate(row):
        if pair not in slow_pairs(arrows, leaves):
            return found, at
        arrows, leaves = slow_pluck(arrows, leaves, pair)
        found.append((arrows, leaves))
    return found, None


def slow_least(arrows, leaves):
    """Point 27: the least row and the two lists of its rest."""
    row = []
    while slow_pairs(arrows, leaves):
        row.append(slow_pairs(arrows, leaves)[0])
        arrows, leaves = slow_pluck(arrows, leaves, row[-1])
    return row, (sorted(arrows), sorted(leaves))


def slow_maximal(arrows, leaves):
    """Point 28: the set of all maximal rows, each as a tuple, found by trying all rows."""
    complete, rows = set(), [((), (arrows, leaves))]
    while rows:
        row, net = rows.pop()
        found = slow_pairs(*net)
        if not found:
            complete.add(row)
        rows += [(row + (pair,), slow_pluck(*net, pair)) for pair in found]
    return complete


def random_row(chance, arrows, leaves):
    """A row that can be followed, of a random length."""
    row = []
    for _ in range(chance.randrange(30)):
        found = slow_pairs(arrows, leaves)
        if not found:
            break
        row.append(chance.choice(found))
        arrows, leaves = slow_pluck(arrows, leaves, row[-1])
    return row
