"""Shapes for the tests, and a slow reading of point 4 to hold the program against."""

TETRAHEDRON = [(0, 1, 2), (0, 2, 3), (0, 3, 1), (1, 3, 2)]
STRIP = [(0, 1, 2), (1, 3, 2), (2, 3, 4)]
BOW_TIE = [(0, 1, 2), (0, 3, 4)]


def spindle(many):
    """A closed skin of 2 * many triangles: a ring of corners from 2 on, with two tips."""
    ring = list(range(2, many + 2))
    triples = []
    for at, here in enumerate(ring):
        beyond = ring[(at + 1) % many]
        triples.append((0, here, beyond))
        triples.append((1, beyond, here))
    return triples


def torus():
    """The closed skin of seven corners and one handle."""
    triples = []
    for k in range(7):
        triples.append((k, (k + 1) % 7, (k + 3) % 7))
        triples.append((k, (k + 3) % 7, (k + 2) % 7))
    return triples


def apart(many):
    """That many triangles with no corner in common."""
    return [(3 * k, 3 * k + 1, 3 * k + 2) for k in range(many)]


def turned(triple, by):
    return triple[by:] + triple[:by]


def sides(triple):
    a, b, c = triple
    return [(a, b), (b, c), (c, a)]


def slow_triple_fault(things):
    for k, thing in enumerate(things):
        if not (isinstance(thing, tuple) and len(thing) == 3):
            return ("triple", k)
        if not all(isinstance(c, int) and not isinstance(c, bool) and c >= 0 for c in thing):
            return ("triple", k)
        if len(set(thing)) < 3:
            return ("triple", k)
    return None


def slow_side_fault(triples):
    for k, triple in enumerate(triples):
        for side in sides(triple):
            if any(side in sides(one) for one in triples[:k]):
                return ("side", k, side)
    return None


def begun_at(triple, corner):
    return turned(triple, triple.index(corner))


def come_to(about, begin):
    """All triangles of about that are come to from begin, itself too; each begun at the corner."""
    come = [begin]
    while True:
        q = come[-1][2]
        onward = [one for one in about if one[1] == q]
        if not onward or onward[0] in come:
            return come
        come.append(onward[0])


def slow_round_fault(triples):
    for corner in sorted({c for triple in triples for c in triple}):
        about = [begun_at(triple, corner) for triple in triples if corner in triple]
        if not any(len(come_to(about, begin)) == len(about) for begin in about):
            return ("round", corner)
    return None


def slow_fault(things):
    """The fault that point 4 asks for, or None of a skin."""
    return slow_triple_fault(things) or slow_side_fault(things) or slow_round_fault(things)


def slow_third(triples, a, b):
    for triple in triples:
        for by in range(3):
            if turned(triple, by)[:2] == (a, b):
                return turned(triple, by)[2]
    return None


def slow_triangles(triples):
    return sorted(begun_at(triple, min(triple)) for triple in triples)
