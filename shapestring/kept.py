"""A skin kept with its word through deeds that can be undone (point 22)."""

from shapestring.changes import checked_deed
from shapestring.errors import NoPast
from shapestring.mending import changed_with_side
from shapestring.sides import checked_side
from shapestring.stretches import stretch
from shapestring.winding import wound_off


class Kept:
    """A skin, and what it is wound off to from a side, or NoSide."""

    def __init__(self, skin, side):
        self.begin = checked_side(skin, side)
        self.shape = skin
        self.told = wound_off(skin, self.begin)
        # Of each deed not undone: the deed, and the skin ahead of it with what that was wound off to.
        self.past = []

    def skin(self):
        return self.shape

    def side(self):
        return self.begin

    def wound(self):
        """The word, the caps' numbers, and the corners as they came."""
        word, caps, corners = self.told
        return (list(word), list(caps), list(corners))

    def deeds(self):
        """The deeds that are not undone, the first one first."""
        return [deed for deed, shape, told in self.past]

    def do(self, deed):
        """The stretch and the caps behind the deed, or what mended refuses, when all stays as it was."""
        checked = checked_deed(deed)
        shape = changed_with_side(self.shape, self.begin, checked)
        told = wound_off(shape, self.begin)
        self.past.append((checked, self.shape, self.told))
        return self.become(shape, told)

    def undo(self):
        """The stretch back and the caps ahead of the last deed, or NoPast."""
        if not self.past:
            raise NoPast("no deed is left to undo")
        deed, shape, told = self.past.pop()
        return self.become(shape, told)

    def become(self, shape, told):
        """Keeps another skin with what it is wound off to, and tells what that mends."""
        mends = stretch(self.told[0], told[0])
        self.shape = shape
        self.told = told
        return (mends, list(told[1]))
