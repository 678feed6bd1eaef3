"""Skins of turned triangles, looked through when they are made (points 4 and 5)."""

from shapestring.errors import NoSkin, TooMany
from shapestring.kinds import is_corner
from shapestring.rings import first_of

MOST_TRIPLES = 200


def is_triple(thing):
    if not isinstance(thing, tuple) or len(thing) != 3:
        return False
    a, b, c = thing
    if not is_corner(a) or not is_corner(b) or not is_corner(c):
        return False
    return a != b and b != c and c != a


def checked_triples(things):
    """The things as plain triples, or NoSkin at the first that is none."""
    triples = []
    for k, thing in enumerate(things):
        if not is_triple(thing):
            raise NoSkin(("triple", k))
        a, b, c = thing
        # Whole numbers of a class of their own would be shown in their own way.
        triples.append((int(a), int(b), int(c)))
    return triples


def thirds_by_side(triples):
    """The third corner of each side, or NoSkin at the first side that comes twice."""
    thirds = {}
    for k, (a, b, c) in enumerate(triples):
        for side, third in [((a, b), c), ((b, c), a), ((c, a), b)]:
            if side in thirds:
                raise NoSkin(("side", k, side))
            thirds[side] = third
    return thirds


def steps_by_corner(thirds):
    """Of each corner c the steps about it: p to q for each triangle (c, p, q)."""
    steps = {}
    for (c, p), q in thirds.items():
        about = steps.setdefault(c, {})
        about[p] = q
    return steps


def hang_together(about):
    """Whether the steps about a corner are one row or one ring."""
    # In a row only its first triangle leads to all others, in a ring any one does.
    at = first_of(about)
    left = dict(about)
    while at in left:
        at = left.pop(at)
    return len(left) == 0


def look_rounds_through(steps):
    for corner in sorted(steps):
        if not hang_together(steps[corner]):
            raise NoSkin(("round", corner))


def begun_least(triple):
    """The same triangle, begun at its least corner."""
    a, b, c = triple
    return min([(a, b, c), (b, c, a), (c, a, b)])


class Skin:
    """A skin of the triples, or TooMany, or NoSkin at the first fault."""

    def __init__(self, triples):
        if len(triples) > MOST_TRIPLES:
            raise TooMany(f"{len(triples)} triples, more than {MOST_TRIPLES}")
        checked = checked_triples(triples)
        thirds = thirds_by_side(checked)
        steps = steps_by_corner(thirds)
        look_rounds_through(steps)
        self.ordered = sorted([begun_least(triple) for triple in checked])
        self.rising = sorted(steps)
        self.thirds = thirds
        self.steps = steps

    def triangles(self):
        """The triples, sorted, each begun at its least corner."""
        return list(self.ordered)

    def corners(self):
        """The corners, rising."""
        return list(self.rising)

    def third(self, a, b):
        """The third corner of the triangle with the side (a, b), or None."""
        return self.thirds.get((a, b))
