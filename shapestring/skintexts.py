"""Skins written as texts, and read again (point 6)."""

from shapestring.errors import NoText
from shapestring.kinds import is_figures
from shapestring.skins import Skin


def show_triangle(triangle):
    return " ".join([str(corner) for corner in triangle])


def show_skin(skin):
    return "; ".join([show_triangle(triangle) for triangle in skin.triangles()])


def read_triple(part):
    """The three whole numbers of a part; whether they are unlike, the skin asks."""
    figures = part.split(" ")
    if len(figures) != 3:
        raise NoText("a triangle has three corners, with a blank between")
    for each in figures:
        if not is_figures(each):
            raise NoText("a corner is told in figures, without noughts ahead")
    a, b, c = figures
    return (int(a), int(b), int(c))


def read_skin(text):
    """The skin of the text, or NoText, or what Skin refuses."""
    if not isinstance(text, str):
        raise NoText("what is read is no text at all")
    # Parting the empty text would tell one empty part, not none.
    if text == "":
        return Skin([])
    return Skin([read_triple(part) for part in text.split("; ")])
