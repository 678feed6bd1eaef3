"""Deeds, each of which turns a skin into another one (point 17)."""

from shapestring.errors import NoDeed, NoSide, NoSkin, Spoilt, Taken, TooMany
from shapestring.kinds import is_corner
from shapestring.rims import rim_steps
from shapestring.rings import pairs_about, walked
from shapestring.sides import is_pair
from shapestring.skins import Skin, begun_least

AT_A_SIDE = ("turn", "out", "draw")
WITH_A_CORNER = ("in", "on", "close")
AT_A_RIM = ("on", "close")


def is_deed(thing):
    if not isinstance(thing, tuple) or len(thing) not in (2, 3):
        return False
    if not isinstance(thing[0], str) or not is_pair(thing[1]):
        return False
    if len(thing) == 2:
        return thing[0] in AT_A_SIDE
    return thing[0] in WITH_A_CORNER and is_corner(thing[2])


def checked_deed(thing):
    """The thing as a plain deed, or NoDeed."""
    if not is_deed(thing):
        raise NoDeed("this has not the form of a deed")
    a, b = thing[1]
    if len(thing) == 2:
        return (thing[0], (int(a), int(b)))
    return (thing[0], (int(a), int(b)), int(thing[2]))


def look_side_through(skin, deed):
    """NoSide where the skin has not the side as the deed needs it."""
    a, b = deed[1]
    if skin.third(a, b) is None:
        raise NoSide("the skin has not this side")
    at_rim = skin.third(b, a) is None
    if at_rim and deed[0] == "turn":
        raise NoSide("the skin has not the turned side")
    if not at_rim and deed[0] in AT_A_RIM:
        raise NoSide("this is no rim side")


def look_corner_through(skin, deed):
    """Taken where the corner that should be new is the skin's."""
    if deed[0] in WITH_A_CORNER and deed[2] in skin.steps:
        raise Taken("the corner is one of the skin's")


def triangles_without(skin, gone):
    """The skin's triangles but for those gone."""
    leaving = [begun_least(triple) for triple in gone]
    return [triangle for triangle in skin.triangles() if triangle not in leaving]


# Each of these tells the triples that come of the deed; (a, b) is its side, and x its corner.


def turned_over(skin, a, b):
    c = skin.third(a, b)
    d = skin.third(b, a)
    return triangles_without(skin, [(a, b, c), (b, a, d)]) + [(a, d, c), (d, b, c)]


def taken_out(skin, a, b):
    return triangles_without(skin, [(a, b, skin.third(a, b))])


def drawn(skin, a, b):
    # A triangle with both corners has the one side or the other.
    left = [triangle for triangle in skin.triangles() if a not in triangle or b not in triangle]
    return [tuple([a if corner == b else corner for corner in triangle]) for triangle in left]


def put_in(skin, a, b, x):
    c = skin.third(a, b)
    return triangles_without(skin, [(a, b, c)]) + [(a, b, x), (b, c, x), (c, a, x)]


def put_on(skin, a, b, x):
    return skin.triangles() + [(b, a, x)]


def closed(skin, a, x):
    rim = walked(rim_steps(skin), a)
    return skin.triangles() + [(q, p, x) for p, q in pairs_about(rim)]


def triples_behind(skin, deed):
    """The triples that come, whether they are a skin or not."""
    a, b = deed[1]
    if deed[0] == "turn":
        return turned_over(skin, a, b)
    if deed[0] == "out":
        return taken_out(skin, a, b)
    if deed[0] == "draw":
        return drawn(skin, a, b)
    if deed[0] == "in":
        return put_in(skin, a, b, deed[2])
    if deed[0] == "on":
        return put_on(skin, a, b, deed[2])
    return closed(skin, a, deed[2])


def changed(skin, deed):
    """The skin behind the deed, or NoDeed, NoSide, Taken, Spoilt."""
    checked = checked_deed(deed)
    look_side_through(skin, checked)
    look_corner_through(skin, checked)
    triples = triples_behind(skin, checked)
    try:
        return Skin(triples)
    except TooMany:
        raise Spoilt("many")
    except NoSkin as e:
        raise Spoilt(e.fault[0])
