"""Pieces wound off from a side (point 11)."""

from shapestring.fronts import Front
from shapestring.rims import rims
from shapestring.rings import pairs_about
from shapestring.sides import checked_side


def closed_thirds(skin):
    """The third corners of the sides, with all rims closed by caps."""
    thirds = dict(skin.thirds)
    for at, rim in enumerate(rims(skin)):
        # Corners are from 0 on, so no cap is taken for one of them.
        cap = -1 - at
        for p, q in pairs_about(rim):
            thirds[(q, p)] = cap
            thirds[(p, cap)] = q
            thirds[(cap, q)] = p
    return thirds


class Winding:
    """A closed piece while it is wound off: the front, and the corners that have come, numbered."""

    def __init__(self, thirds, side):
        a, b = side
        self.thirds = thirds
        self.front = Front()
        self.named = [a, b]
        self.numbers = {a: 0, b: 1}

    def third_corner(self):
        """The third corner of the triangle with the gate."""
        a, b = self.front.gate()
        return self.thirds[(self.named[a], self.named[b])]

    def letter_for(self, third):
        """The letter that puts the triangle of the gate and this third corner."""
        if third not in self.numbers:
            return ("C",)
        a, b = self.front.gate()
        x = self.numbers[third]
        on_right = self.front.is_wanted(b, x)
        on_left = self.front.is_wanted(x, a)
        if on_right and on_left:
            return ("E",)
        if on_right:
            return ("R",)
        if on_left:
            return ("L",)
        j, k = self.front.place_of(x, self.neighbour(third, a))
        return ("S", j, k)

    def neighbour(self, third, a):
        """The number of the corner behind the place of the third one, found going about it from a on."""
        x = self.numbers[third]
        q = self.named[a]
        # What lies between may have not come yet.
        while q not in self.numbers or not self.front.is_wanted(x, self.numbers[q]):
            q = self.thirds[(q, third)]
        return self.numbers[q]

    def put_next(self):
        """Puts the triangle with the gate, and tells its letter."""
        third = self.third_corner()
        letter = self.letter_for(third)
        self.front.put(letter)
        if third not in self.numbers:
            self.numbers[third] = len(self.named)
            self.named.append(third)
        return letter


def wound_from(thirds, side):
    """What a closed piece, told by its third corners, is wound off to from a side that it has."""
    winding = Winding(thirds, side)
    word = []
    while winding.front.gate() is not None:
        word.append(winding.put_next())
    caps = [number for number, corner in enumerate(winding.named) if corner < 0]
    corners = [None if corner < 0 else corner for corner in winding.named]
    return (word, caps, corners)


def wound_off(skin, side):
    """The word, the caps' numbers, and the corners as they came, or NoSide."""
    checked = checked_side(skin, side)
    return wound_from(closed_thirds(skin), checked)
