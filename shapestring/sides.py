"""What a corner and a side of a skin are, asked of anything."""

from shapestring.errors import NoCorner, NoSide
from shapestring.kinds import is_corner


def checked_corner(skin, thing):
    """The thing as a plain corner of the skin, or NoCorner."""
    if not is_corner(thing) or thing not in skin.steps:
        raise NoCorner("this is no corner of the skin")
    return int(thing)


def is_pair(thing):
    if not isinstance(thing, tuple) or len(thing) != 2:
        return False
    a, b = thing
    return is_corner(a) and is_corner(b)


def checked_side(skin, thing):
    """The thing as a plain side of the skin, or NoSide."""
    if not is_pair(thing):
        raise NoSide("a side is a tuple of two corners")
    a, b = thing
    if skin.third(a, b) is None:
        raise NoSide("the skin has not this side")
    return (int(a), int(b))
