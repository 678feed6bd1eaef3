"""What a side of a skin is, asked of anything."""

from shapestring.errors import NoSide
from shapestring.kinds import is_corner


def is_pair(thing):
    if not isinstance(thing, tuple) or len(thing) != 2:
        return False
    a, b = thing
    return is_corner(a) and is_corner(b)


def checked_side(skin, thing):
    """The thing as a plain side of the skin, or NoSide."""
    if not is_pair(thing):
        raise NoSide("a side is a tuple of two corners")
    a, b = thing
    if skin.third(a, b) is None:
        raise NoSide("the skin has not this side")
    return (int(a), int(b))
