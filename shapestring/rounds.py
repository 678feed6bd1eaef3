"""Rim sides, and the rounds of corners (point 7)."""

from shapestring.errors import NoCorner
from shapestring.kinds import is_corner
from shapestring.rings import first_of, walked
from shapestring.sides import checked_side


def is_rim_side(skin, side):
    """Whether the skin has not the side turned about, or NoSide."""
    a, b = checked_side(skin, side)
    return skin.third(b, a) is None


def round_of(skin, corner):
    """The corners about the corner, or NoCorner."""
    if not is_corner(corner) or corner not in skin.steps:
        raise NoCorner("this is no corner of the skin")
    about = skin.steps[corner]
    return walked(about, first_of(about))
