"""Words: ended, and wound on to skins (points 12 and 13)."""

from shapestring.errors import NoCaps, NoLetter, NoSkin, NoWord
from shapestring.fronts import Front
from shapestring.kinds import is_whole
from shapestring.rims import rims
from shapestring.rings import first_of, walked
from shapestring.skins import Skin, steps_by_corner, thirds_by_side

# No rim's cap comes ahead of the first triangle, which has the corners 0, 1 and 2.
LEAST_CAP = 3


def can_put(front, letter):
    """Whether the letter could be put; then it is."""
    try:
        front.put(letter)
    except NoLetter:
        return False
    return True


def front_behind(letters):
    """The front on which all letters are put, or NoWord at the first that can't be."""
    front = Front()
    for at, letter in enumerate(letters):
        if not can_put(front, letter):
            raise NoWord(at)
    return front


def lessening_letters(front):
    """The letters that might end the loop worked on, shorten it, or part it into shorter ones."""
    length = len(front.loops()[-1])
    return [("E",), ("R",), ("L",)] + [("S", 0, k) for k in range(3, length - 1)]


def put_towards_end(front):
    """Puts a letter that leads on to the front's end, and tells it.

    Where no other can be put, a C can, and behind it an L: so a corner of the loop gives way to a new one. At the
    latest when all but one have done so an L shortens the loop, as new corners have sides with their neighbours alone.
    """
    for letter in lessening_letters(front):
        if can_put(front, letter):
            return letter
    front.put(("C",))
    return ("C",)


def ended(letters):
    """Letters that make the row a word when they are put behind it, or NoWord."""
    front = front_behind(letters)
    told = []
    while front.gate() is not None:
        told.append(put_towards_end(front))
    return told


def are_numbers_of_caps(caps, many):
    """Whether these are rising numbers of corners that may be caps, of a word of so many corners."""
    if not isinstance(caps, list):
        return False
    least = LEAST_CAP
    for cap in caps:
        if not is_whole(cap) or cap < least or cap >= many:
            return False
        least = cap + 1
    return True


def rims_of_caps(triples, caps):
    """The caps' rounds turned about, sorted, each begun at its least corner."""
    steps = steps_by_corner(thirds_by_side(triples))
    told = []
    for cap in caps:
        ring = walked(steps[cap], first_of(steps[cap]))
        told.append(ring[:1] + ring[:0:-1])
    return sorted(told)


def skin_without(triples, caps):
    """The skin of the triples in which no cap stands, or NoCaps."""
    left = [(a, b, c) for a, b, c in triples if a not in caps and b not in caps and c not in caps]
    try:
        skin = Skin(left)
    except NoSkin:
        raise NoCaps("without these corners it is no skin")
    if rims_of_caps(triples, caps) != rims(skin):
        raise NoCaps("the rounds of these corners are not the rims")
    return skin


def wound_on(word, caps=None):
    """The skin of the word's triples, without the caps' ones, or NoWord, or NoCaps."""
    front = front_behind(word)
    if front.gate() is not None:
        raise NoWord(len(word))
    if caps is None:
        return Skin(front.triples())
    if not are_numbers_of_caps(caps, front.come()):
        raise NoCaps("caps are rising numbers of corners of the word, from 3 on")
    return skin_without(front.triples(), caps)
