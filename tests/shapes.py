"""Shapes for the tests, and a slow reading of point 4 to hold the program against."""

import random

TETRAHEDRON = [(0, 1, 2), (0, 2, 3), (0, 3, 1), (1, 3, 2)]
STRIP = [(0, 1, 2), (1, 3, 2), (2, 3, 4)]
BOW_TIE = [(0, 1, 2), (0, 3, 4)]


def spindle(many):
    """A closed skin of 2 * many triangles: a ring of corners from 2 on, with two tips."""
    ring = list(range(2, many + 2))
    triples = []
    for at, here in enumerate(ring):
        beyond = ring[(at + 1) % many]
        triples.append((0, here, beyond))
        triples.append((1, beyond, here))
    return triples


def torus():
    """The closed skin of seven corners and one handle."""
    triples = []
    for k in range(7):
        triples.append((k, (k + 1) % 7, (k + 3) % 7))
        triples.append((k, (k + 3) % 7, (k + 2) % 7))
    return triples


def apart(many):
    """That many triangles with no corner in common."""
    return [(3 * k, 3 * k + 1, 3 * k + 2) for k in range(many)]


def turned(triple, by):
    return triple[by:] + triple[:by]


def sides(triple):
    a, b, c = triple
    return [(a, b), (b, c), (c, a)]


def slow_triple_fault(things):
    for k, thing in enumerate(things):
        if not (isinstance(thing, tuple) and len(thing) == 3):
            return ("triple", k)
        if not all(isinstance(c, int) and not isinstance(c, bool) and c >= 0 for c in thing):
            return ("triple", k)
        if len(set(thing)) < 3:
            return ("triple", k)
    return None


def slow_side_fault(triples):
    for k, triple in enumerate(triples):
        for side in sides(triple):
            if any(side in sides(one) for one in triples[:k]):
                return ("side", k, side)
    return None


def begun_at(triple, corner):
    return turned(triple, triple.index(corner))


def come_to(about, begin):
    """All triangles of about that are come to from begin, itself too; each begun at the corner."""
    come = [begin]
    while True:
        q = come[-1][2]
        onward = [one for one in about if one[1] == q]
        if not onward or onward[0] in come:
            return come
        come.append(onward[0])


def slow_round_fault(triples):
    for corner in sorted({c for triple in triples for c in triple}):
        about = [begun_at(triple, corner) for triple in triples if corner in triple]
        if not any(len(come_to(about, begin)) == len(about) for begin in about):
            return ("round", corner)
    return None


def slow_fault(things):
    """The fault that point 4 asks for, or None of a skin."""
    return slow_triple_fault(things) or slow_side_fault(things) or slow_round_fault(things)


def slow_third(triples, a, b):
    for triple in triples:
        for by in range(3):
            if turned(triple, by)[:2] == (a, b):
                return turned(triple, by)[2]
    return None


def slow_triangles(triples):
    return sorted(begun_at(triple, min(triple)) for triple in triples)


def fan(many):
    """That many triangles from first to last about corner 0."""
    return [(0, k, k + 1) for k in range(1, many + 1)]


def wheel(many):
    """That many triangles all about corner 0, with one rim."""
    return [(0, k + 1, (k + 1) % many + 1) for k in range(many)]


def shifted(triples, by):
    return [tuple(c + by for c in triple) for triple in triples]


def mirrored(triples):
    return [triple[::-1] for triple in triples]


def corners_of(triples):
    return sorted({c for triple in triples for c in triple})


def slow_pieces(triples):
    """Lumps of corners, made one as long as a triangle has corners of two."""
    lumps = [{c} for c in corners_of(triples)]
    for triple in triples:
        touched = [lump for lump in lumps if lump & set(triple)]
        lumps = [lump for lump in lumps if not lump & set(triple)] + [set().union(*touched)]
    return sorted(sorted(lump) for lump in lumps)


def glued(one, other):
    """Two skins made one: a triangle of each goes, and there they are sewn together."""
    a, b, c = one[0]
    other = shifted(other, max(corners_of(one)) + 1)
    p, q, r = other[0]
    names = {p: b, q: a, r: c}
    return one[1:] + [tuple(names.get(each, each) for each in triple) for triple in other[1:]]


def rings(many):
    """That many rings of seven corners joined: a closed skin of so many handles."""
    skin = torus()
    for k in range(many - 1):
        skin = glued(skin[-1:] + skin[:-1], torus())
    return skin


def put_in(triples, at):
    """A new corner put into triangle number at."""
    a, b, c = triples[at]
    x = max(corners_of(triples)) + 1
    return triples[:at] + triples[at + 1:] + [(a, b, x), (b, c, x), (c, a, x)]


def without_corners(triples, gone):
    return [triple for triple in triples if not any(c in gone for c in triple)]


def pierced(triples, many):
    """So many more rims of three corners each, all of them new."""
    for k in range(many):
        triples = put_in(triples, 0)
        triples = put_in(triples, len(triples) - 1)
        triples = put_in(triples, len(triples) - 2)
        triples = triples[:-2] + triples[-1:]
    return triples


def sleeve(many):
    """A skin about a ring, with two rims of that many corners each."""
    triples = []
    for k in range(many):
        onward = (k + 1) % many
        triples.append((k, onward, many + k))
        triples.append((onward, many + onward, many + k))
    return triples


BIG = 10 ** 60 - 1


def renamed_big(triples):
    """The same shape over corners of up to sixty figures."""
    return [tuple(BIG - 7 * c for c in triple) for triple in triples]


def all_sides(triples):
    return [side for triple in triples for side in sides(triple)]


def closed(triples):
    """All rims closed by new corners, each rim by one; found without the program."""
    known = set(all_sides(triples))
    onward = {a: b for a, b in known if (b, a) not in known}
    told = list(triples)
    h = max(corners_of(triples), default=0)
    while onward:
        h += 1
        p = min(onward)
        while p in onward:
            q = onward.pop(p)
            told.append((q, p, h))
            p = q
    return told


def part_of(whole, seed):
    """Some triangles of a closed skin that are a skin again."""
    chance = random.Random(seed)
    part = list(whole)
    for turn in range(chance.randrange(len(whole))):
        gone = chance.choice(part)
        if chance.randrange(4) == 0:
            fewer = without_corners(part, gone[:chance.randrange(1, 3)])
        else:
            fewer = [triple for triple in part if triple != gone]
        if fewer and slow_round_fault(fewer) is None:
            part = fewer
    return part


def skins():
    """Shapes of many kinds, each with a name."""
    return [
        ("none", []),
        ("one", [(7, 2, 4)]),
        ("both ways round", [(0, 1, 2), (0, 2, 1)]),
        ("strip", STRIP),
        ("tetrahedron", TETRAHEDRON),
        ("octahedron", spindle(4)),
        ("fan", fan(9)),
        ("wheel of three", wheel(3)),
        ("wheel", shifted(wheel(9), 5)),
        ("two hundred in a fan", fan(200)),
        ("two hundred about one", wheel(200)),
        ("spindle", spindle(100)),
        ("ring", torus()),
        ("two rings", rings(2)),
        ("four rings", rings(4)),
        ("ring with a rim", torus()[1:]),
        ("ring with a great rim", without_corners(torus(), [3])),
        ("rings with rims", pierced(rings(3), 3)),
        ("sleeve", sleeve(8)),
        ("sleeve with holes", pierced(sleeve(4), 2)),
        ("two pieces", TETRAHEDRON + [(10, 12, 11)]),
        ("several pieces", shifted(STRIP, 40) + torus() + shifted(sleeve(5), 60) + [(20, 30, 25)]),
        ("apart", apart(40)),
        ("big", renamed_big(glued(torus(), put_in(TETRAHEDRON, 1)))),
        ("big with a rim", renamed_big(wheel(6))),
    ]
