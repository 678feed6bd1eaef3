"""Rim sides, and the rounds of corners (point 7)."""

from shapestring.rings import first_of, walked
from shapestring.sides import checked_corner, checked_side


def is_rim_side(skin, side):
    """Whether the skin has not the side turned about, or NoSide."""
    a, b = checked_side(skin, side)
    return skin.third(b, a) is None


def round_of(skin, corner):
    """The corners about the corner, or NoCorner."""
    about = skin.steps[checked_corner(skin, corner)]
    return walked(about, first_of(about))
