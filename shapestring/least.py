"""The least word and caps of a piece, and how many of its sides have them (point 20)."""

from shapestring.pieces import piece_of
from shapestring.sides import checked_corner
from shapestring.winding import closed_thirds, wound_from


def word_and_caps(told):
    """By these pieces are compared, whatever their corners are called."""
    word, caps, corners = told
    return (word, caps)


def all_windings(skin, corner):
    """What the piece with the corner is wound off to from each of its sides, or NoCorner."""
    piece = piece_of(skin, checked_corner(skin, corner))
    thirds = closed_thirds(skin)
    # Sorted, so that the order of a skin's triples doesn't show in which of like beginnings is told.
    return [wound_from(thirds, (a, b)) for a in piece for b in sorted(skin.steps[a])]


def least(skin, corner):
    """The least word and caps of the piece, and the corners as they came, or NoCorner."""
    return min(all_windings(skin, corner), key=word_and_caps)


def likenesses(skin, corner):
    """How many sides of the piece have its least word and caps, or NoCorner."""
    every = [word_and_caps(told) for told in all_windings(skin, corner)]
    return every.count(min(every))
