"""Fronts, on which letters are put one behind another (point 10)."""

from shapestring.errors import NoLetter
from shapestring.kinds import is_whole
from shapestring.rings import pairs_about

PLAIN_SIGNS = ("C", "R", "L", "E")


def is_letter(thing):
    """Whether a thing has the form of a letter; where it can be put, the front asks."""
    if not isinstance(thing, tuple) or len(thing) not in (1, 3):
        return False
    if not isinstance(thing[0], str):
        return False
    if len(thing) == 1:
        return thing[0] in PLAIN_SIGNS
    return thing[0] == "S" and is_whole(thing[1]) and is_whole(thing[2])


# Each of these tells the letter's third corner, and the loops behind it; ahead are all loops but the last.


def come_anew(ahead, loop, fresh):
    return (fresh, ahead + [loop[:1] + [fresh] + loop[1:]])


def gone_right(ahead, loop):
    if len(loop) <= 3:
        raise NoLetter("R needs a loop of more than three corners")
    return (loop[2], ahead + [loop[:1] + loop[2:]])


def gone_left(ahead, loop):
    if len(loop) <= 3:
        raise NoLetter("L needs a loop of more than three corners")
    return (loop[-1], ahead + [loop[-1:] + loop[1:-1]])


def loop_ended(ahead, loop):
    if len(loop) != 3:
        raise NoLetter("E needs a loop of three corners")
    return (loop[2], ahead)


def loop_parted(ahead, loop, k):
    if k < 3 or k >= len(loop) - 1:
        raise NoLetter("the loop can't be parted at this place")
    return (loop[k], ahead + [loop[:1] + loop[k:], loop[k:k + 1] + loop[1:k]])


def loops_joined(ahead, loop, j, k):
    if j < 1 or j > len(ahead):
        raise NoLetter("no loop has so many loops behind it")
    at = len(ahead) - j
    other = ahead[at]
    if k < 0 or k >= len(other):
        raise NoLetter("the loop to join has no such place")
    between = other[k:] + other[:k + 1]
    return (other[k], ahead[:at] + ahead[at + 1:] + [loop[:1] + between + loop[1:]])


def outcome(rows, letter, fresh):
    """The third corner and the loops behind the letter, or NoLetter where they don't bear it."""
    ahead = rows[:-1]
    loop = rows[-1]
    if letter[0] == "C":
        return come_anew(ahead, loop, fresh)
    if letter[0] == "R":
        return gone_right(ahead, loop)
    if letter[0] == "L":
        return gone_left(ahead, loop)
    if letter[0] == "E":
        return loop_ended(ahead, loop)
    sign, j, k = letter
    if j == 0:
        return loop_parted(ahead, loop, k)
    return loops_joined(ahead, loop, j, k)


class Front:
    """A row of loops, at first just [0, 1], and the triples put so far."""

    def __init__(self):
        self.rows = [[0, 1]]
        self.made = []
        self.many = 2
        self.stood = {}
        self.wants = {(0, 1): True, (1, 0): True}

    def loops(self):
        return [list(loop) for loop in self.rows]

    def gate(self):
        """The side to which the next triple comes, or None when all is done."""
        if not self.rows:
            return None
        loop = self.rows[-1]
        return (loop[0], loop[1])

    def come(self):
        """How many corners have come."""
        return self.many

    def triples(self):
        """The triples, in the order put."""
        return list(self.made)

    def is_wanted(self, p, q):
        return (p, q) in self.wants

    def place_of(self, p, q):
        """Where the wanted side (p, q) begins: how many loops behind its loop, and the place in it."""
        for j, loop in enumerate(reversed(self.rows)):
            for k, side in enumerate(pairs_about(loop)):
                if side == (p, q):
                    return (j, k)
        return None

    def put(self, letter):
        """The triple that the letter makes, or NoLetter, when all stays as it was."""
        if not is_letter(letter):
            raise NoLetter("this has not the form of a letter")
        if not self.rows:
            raise NoLetter("the front is done")
        x, rows = outcome(self.rows, letter, self.many)
        self.look_sides_through(letter[0], x)
        a, b = self.gate()
        self.take_sides([(a, b), (b, x), (x, a)])
        self.made.append((a, b, x))
        self.rows = rows
        self.many = max(self.many, x + 1)
        return (a, b, x)

    def look_sides_through(self, sign, x):
        """NoLetter where the third corner or a side that it brings stands already."""
        a, b = self.gate()
        if x == a or x == b:
            raise NoLetter("the third corner is one of the gate's")
        if sign not in ("R", "E") and self.is_known(b, x):
            raise NoLetter(f"there is a side of {b} and {x} already")
        if sign not in ("L", "E") and self.is_known(x, a):
            raise NoLetter(f"there is a side of {x} and {a} already")

    def is_known(self, p, q):
        """Whether the side, this way or turned about, is a triple's or is wanted."""
        return any([side in self.stood or side in self.wants for side in [(p, q), (q, p)]])

    def take_sides(self, sides):
        for p, q in sides:
            self.stood[(p, q)] = True
            if (p, q) in self.wants:
                self.wants.pop((p, q))
            else:
                self.wants[(q, p)] = True
