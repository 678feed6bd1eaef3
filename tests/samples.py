"""Words, made by the program out of the shapes, for the tests of what is built on words."""

import shapes
import slowly
from shapestring.skins import Skin
from shapestring.winding import wound_off
from shapestring.words import ended


def words_of_skins(some=3):
    """Words with their caps, of skins of many kinds."""
    told = []
    for name, triples in shapes.skins():
        for side in slowly.chosen_sides(triples, some):
            told.append(wound_off(Skin(triples), side)[:2])
    return told


def words_of_parts(many):
    """Words with their caps, of parts of closed skins with and without handles."""
    told = []
    for seed in range(many):
        whole = slowly.chosen_closed(seed, 30)
        for triples in (whole, shapes.part_of(whole, seed), shapes.part_of(shapes.spindle(9), seed)):
            for side in slowly.chosen_sides(triples, 2):
                told.append(wound_off(Skin(triples), side)[:2])
    return told


def words_of_rows(many, longest):
    """Words that begin with chosen letters."""
    told = []
    for seed in range(many):
        row = slowly.chosen_row(seed, longest)
        told.append(row + ended(row))
    return told


def is_join(letter):
    return letter[0] == "S" and letter[1] > 0


def without_joins(words):
    return [word for word in words if not any(is_join(letter) for letter in word)]
