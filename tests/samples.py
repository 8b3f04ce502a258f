"""Nets and values that several tests use, and slow plain readings of the document to compare with."""

import random


def stacked(many):
    """The two lists of a net with one leaf and a chain of mixings (two or more) right above it."""
    splits = list(range(many))
    mixings = list(range(many, 2 * many))
    arrows = list(zip(splits, splits[1:])) + list(zip(splits, mixings)) + [(splits[-1], mixings[0])]
    arrows += list(zip(mixings, mixings[1:])) + [(mixings[-1], 2 * many)]
    return arrows, [(2 * many, "a")]


def caterpillar(many, *, top=0):
    """The two lists of a tree with the leaves n0, n1, .. whose places count on from `top`."""
    arrows, leaves = [], []
    place = top
    for k in range(many - 1):
        arrows += [(place, place + 1), (place, place + 2)]
        leaves.append((place + 1, f"n{k}"))
        place += 2
    return arrows, leaves + [(place, f"n{many - 1}")]


def greatest():
    """The two lists of a net with 46 arrows, 12 leaves and 8 mixings."""
    arrows, leaves = stacked(8)
    below, named = caterpillar(12, top=leaves[0][0])
    return arrows + below, named


# Each with the kinds of its places, written by hand.
ONE_PLACE = ([], [(7, "a")])
CHERRY = ([(4, 9), (4, 2)], [(9, "a"), (2, "b")])
DOC = ([(0, 1), (0, 5), (1, 2), (1, 3), (3, 4), (5, 3), (5, 6)], [(2, "a"), (4, "b"), (6, "c")])
# The mixing 0 has the mothers 8 and 3, and 8 is the mother of 3.
SHORT = ([(8, 3), (8, 0), (3, 0), (3, 5), (0, 9999)], [(9999, "x"), (5, "y1")])
# Holes in the numbers, the root 50, and the mixings 30 and 4 right below one another.
STACK = (
    [(50, 6), (50, 30), (6, 30), (6, 4), (30, 4), (4, 17), (17, 2), (17, 99)],
    [(2, "zz"), (99, "a")],
)
# The rest of a net that is stuck: two mixings below the same two mothers.
KNOT = ([(9, 8), (9, 7), (8, 1), (8, 2), (7, 1), (7, 2), (1, 5), (2, 6)], [(5, "b"), (6, "a")])
SAMPLES = [ONE_PLACE, CHERRY, DOC, SHORT, STACK, KNOT, stacked(2), stacked(8), caterpillar(12), greatest()]


def below(place, arrows):
    """The set of the places below the place, by closing it under the arrows."""
    found = set()
    while True:
        grown = found | {v for u, v in arrows if u == place or u in found}
        if grown == found:
            return found
        found = grown


def random_net(chance):
    """The two lists of a net, grown by random splits and mixings and with random numbers."""
    arrows, leaves, top, fresh = [], [(0, "a")], 0, 1
    for _ in range(chance.randrange(12)):
        if chance.random() < 0.5 and len(leaves) < 12:
            at = chance.choice(arrows + [None])
            split, leaf = fresh, fresh + 1
            if at is None:
                arrows += [(split, top), (split, leaf)]
                top = split
            else:
                arrows.remove(at)
                arrows += [(at[0], split), (split, at[1]), (split, leaf)]
            leaves.append((leaf, f"{chance.choice('abz')}{fresh}"))
            fresh += 2
        elif len(arrows) > 1 and len({v for u, v in arrows if len([w for w in arrows if w[1] == v]) > 1}) < 8:
            giver, taker = chance.sample(arrows, 2)
            if giver[0] == taker[1] or giver[0] in below(taker[1], arrows):
                continue
            split, mixing = fresh, fresh + 1
            arrows.remove(giver)
            arrows.remove(taker)
            arrows += [(giver[0], split), (split, giver[1]), (taker[0], mixing), (mixing, taker[1]), (split, mixing)]
            fresh += 2
    numbers = chance.sample(range(chance.choice([fresh, 40, 10000])), fresh) if fresh < 40 else list(range(fresh))
    arrows = [(numbers[u], numbers[v]) for u, v in arrows]
    leaves = [(numbers[place], name) for place, name in leaves]
    chance.shuffle(arrows)
    chance.shuffle(leaves)
    return arrows, leaves


def random_nets(many, *, seed):
    """A list of random nets that is always the same for the same seed."""
    chance = random.Random(seed)
    return [random_net(chance) for _ in range(many)]


def first_at(items):
    """The index of the first item that holds, or None."""
    return next((at for at, item in enumerate(items) if item), None)


def slow_fault(arrows, leaves):
    """Point 12, read as plainly as can be."""
    def place_like(value):
        return type(value) is int and 0 <= value <= 9999

    def name_like(value):
        signs = "0123456789abcdefghijklmnopqrstuvwxyz"
        return 0 < len(value) < 9 and all(sign in signs for sign in value) and value[0] not in signs[:10]

    if len(arrows) > 46 or len(leaves) > 12:
        return ("long", 0 if len(arrows) > 46 else 1)
    arrow_like = [type(a) is tuple and len(a) == 2 and place_like(a[0]) and place_like(a[1]) for a in arrows]
    leaf_like = [type(e) is tuple and len(e) == 2 and place_like(e[0]) and type(e[1]) is str for e in leaves]
    if not all(arrow_like):
        return ("arrow", arrow_like.index(False))
    if not all(leaf_like):
        return ("leaf", leaf_like.index(False))
    lists = (
        ("name", [not name_like(name) for place, name in leaves]),
        ("again", [any(p == q or n == m for q, m in leaves[:k]) for k, (p, n) in enumerate(leaves)]),
        ("double", [arrows.count(a) > 1 and arrows.index(a) != k for k, a in enumerate(arrows)]),
        ("none", [len(leaves) == 0]),
    )
    for word, faults in lists:
        if any(faults):
            return (word, first_at(faults))
    return slow_place_fault(arrows, leaves)


def slow_place_fault(arrows, leaves):
    """The part of point 12 that speaks of places."""
    places = sorted({end for arrow in arrows for end in arrow} | {place for place, name in leaves})
    into = {p: sum(1 for u, v in arrows if v == p) for p in places}
    out = {p: sum(1 for u, v in arrows if u == p) for p in places}
    good = {(0, 0), (0, 2), (1, 2), (2, 1), (1, 0)}
    roots = [p for p in places if into[p] == 0]
    labels = {place for place, name in leaves}
    mixings = sum(1 for p in places if into[p] == 2)
    for p in places:
        if (into[p], out[p]) not in good:
            return ("degree", p)
    if len(roots) != 1:
        return ("roots", roots[1] if roots else min(places))
    for p in places:
        if p in below(p, arrows):
            return ("ring", p)
    for p in places:
        if (out[p] == 0) != (p in labels):
            return ("label", p)
    return ("mixings", mixings) if mixings > 8 else None


def slow_text(arrows, leaves):
    """The text of point 22 and the places in the order in which they are reached."""
    names = dict(leaves)
    marks, order = {}, []

    def node(place):
        if place in marks:
            return f"#{marks[place]}"
        order.append(place)
        if place in names:
            return names[place]
        below_it = [v for u, v in arrows if u == place]
        if len(below_it) == 1:
            marks[place] = len(marks) + 1
            return "(" + node(below_it[0]) + f")#{marks[place]}"
        one, two = sorted(below_it, key=lambda v: (0, marks[v]) if v in marks else (1, v))
        return "(" + node(one) + "," + node(two) + ")"

    root = [p for p in {end for a in arrows for end in a} | set(names) if all(v != p for u, v in arrows)]
    return node(root[0]) + ";", order
