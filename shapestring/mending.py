"""The stretch of a word that is mended behind a deed (point 19)."""

from shapestring.changes import changed
from shapestring.errors import Gone
from shapestring.sides import checked_side
from shapestring.stretches import stretch
from shapestring.winding import wound_off


def changed_with_side(skin, side, deed):
    """The skin behind the deed, or what changed refuses, or Gone where it has not the side."""
    a, b = side
    behind = changed(skin, deed)
    if behind.third(a, b) is None:
        raise Gone("the changed skin has not the side")
    return behind


def mended(skin, side, deed):
    """The least stretch from the side's word to that behind the deed, and the caps behind it."""
    checked = checked_side(skin, side)
    behind = changed_with_side(skin, checked, deed)
    before = wound_off(skin, checked)
    word, caps, corners = wound_off(behind, checked)
    return (stretch(before[0], word), caps)
