"""Slow readings of points 17 to 21, word for word, to hold the program against. A skin is a list of triples."""

import shapes
import slowly

WITH_CORNER = {"turn": False, "in": True, "on": True, "out": False, "close": True, "draw": False}


def is_corner(thing):
    return isinstance(thing, int) and not isinstance(thing, bool) and thing >= 0


def is_deed(thing):
    if not isinstance(thing, tuple) or not thing or not isinstance(thing[0], str) or thing[0] not in WITH_CORNER:
        return False
    if len(thing) != (3 if WITH_CORNER[thing[0]] else 2):
        return False
    side = thing[1]
    if not isinstance(side, tuple) or len(side) != 2 or not all(is_corner(each) for each in side):
        return False
    return len(thing) == 2 or is_corner(thing[2])


def triangle_with(triples, a, b):
    """The triple of the list that has the side, as it stands there."""
    return [triple for triple in triples if (a, b) in shapes.sides(triple)][0]


def third_of(triple, a, b):
    return [c for c in triple if c not in (a, b)][0]


def triples_behind(triples, deed):
    """The triples that come of a deed whose side and corner are right."""
    name, (a, b) = deed[:2]
    own = triangle_with(triples, a, b)
    c = third_of(own, a, b)
    but_own = [triple for triple in triples if triple != own]
    if name == "turn":
        beyond = triangle_with(triples, b, a)
        d = third_of(beyond, a, b)
        return [triple for triple in but_own if triple != beyond] + [(a, d, c), (d, b, c)]
    if name == "out":
        return but_own
    if name == "draw":
        left = [triple for triple in but_own if (b, a) not in shapes.sides(triple)]
        return [tuple(a if each == b else each for each in triple) for triple in left]
    x = deed[2]
    if name == "in":
        return but_own + [(a, b, x), (b, c, x), (c, a, x)]
    if name == "on":
        return triples + [(b, a, x)]
    rim = [rim for rim in slowly.rims_as_sides(triples) if (a, b) in rim][0]
    return triples + [(q, p, x) for p, q in sorted(rim)]


def changed(triples, deed):
    """("skin", triangles), or the name of what it is refused with, of Spoilt with the kind."""
    if not is_deed(deed):
        return ("NoDeed",)
    a, b = deed[1]
    sides = shapes.all_sides(triples)
    if (a, b) not in sides or deed[0] == "turn" and (b, a) not in sides:
        return ("NoSide",)
    if deed[0] in ("on", "close") and (b, a) in sides:
        return ("NoSide",)
    if len(deed) == 3 and deed[2] in shapes.corners_of(triples):
        return ("Taken",)
    behind = triples_behind(triples, deed)
    if len(behind) > 200:
        return ("Spoilt", "many")
    fault = shapes.slow_fault(behind)
    return ("Spoilt", fault[0]) if fault else ("skin", shapes.slow_triangles(behind))


def stretch(one, other):
    """The least stretch, found by trying all of them."""
    at = max(n for n in range(min(len(one), len(other)) + 1) if one[:n] == other[:n])
    for many in range(len(one) - at + 1):
        end = len(other) - (len(one) - at - many)
        if end >= at and one[:at] + other[at:end] + one[at + many:] == other:
            return (at, many, other[at:end])
    raise AssertionError("no stretch")


def all_deeds(triples, sides, fresh):
    """Each of the six deeds at each of the sides."""
    told = []
    for side in sides:
        told += [("turn", side), ("out", side), ("draw", side)]
        told += [("in", side, fresh), ("on", side, fresh), ("close", side, fresh)]
    return told


def fresh_of(triples):
    return max(shapes.corners_of(triples), default=-1) + 1


def mended(triples, side, deed):
    """(stretch, caps), or what it is refused with, in the form of changed; the side is the skin's."""
    told = changed(triples, deed)
    if told[0] != "skin":
        return told
    if side not in shapes.all_sides(told[1]):
        return ("Gone",)
    word, caps, corners = slowly.wound_off(told[1], side)
    return (stretch(slowly.wound_off(triples, side)[0], word), caps)


def piece_triples(triples, corner):
    piece = [each for each in shapes.slow_pieces(triples) if corner in each][0]
    return [triple for triple in triples if triple[0] in piece]


def leasts(triples):
    """The least (word, caps) of each piece, sorted."""
    told = []
    for piece in shapes.slow_pieces(triples):
        sides = shapes.all_sides(piece_triples(triples, piece[0]))
        told.append(min(slowly.wound_off(triples, side)[:2] for side in sides))
    return sorted(told)


def thirds_of(triples):
    return {(a, b): shapes.slow_third(triples, a, b) for a, b in shapes.all_sides(triples)}


def names_from(thirds, side, others, other):
    """The corners of the one piece by those of the other, where the one's side becomes the other's; or None."""
    names = dict(zip(side, other))
    waiting = [(side, other)]
    done = set()
    while waiting:
        (a, b), (p, q) = waiting.pop()
        if (a, b) in done:
            continue
        done.add((a, b))
        if ((b, a) in thirds) != ((q, p) in others):
            return None
        c, r = thirds[(a, b)], others[(p, q)]
        if names.setdefault(c, r) != r:
            return None
        waiting += [((b, c), (q, r)), ((c, a), (r, p))]
        if (b, a) in thirds:
            waiting.append(((b, a), (q, p)))
    if len(set(names.values())) < len(names) or len(done) < len(others):
        return None
    return names


def ways(one, other):
    """How many ways one piece's triangles become the other's, found side by side, without words."""
    thirds, others = thirds_of(one), thirds_of(other)
    if len(thirds) != len(others):
        return 0
    side = next(iter(thirds))
    return sum(names_from(thirds, side, others, each) is not None for each in others)


def paired(one, other):
    """("alike",), or all that point 21 tells of unlike ones."""
    ours, theirs = leasts(one), leasts(other)
    for at in range(max(len(ours), len(theirs))):
        if at >= min(len(ours), len(theirs)):
            return ("unlike", at, 0)
        if ours[at] != theirs[at]:
            mine, yours = ours[at][0], theirs[at][0]
            return ("unlike", at, max(n for n in range(len(mine) + 1) if mine[:n] == yours[:n]))
    return ("alike",)
