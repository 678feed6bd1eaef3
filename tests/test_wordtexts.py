"""Point 14: a word's text, written and read."""

import itertools
import random
import re
import unittest

import shapes
import slowly
import things
from shapestring.errors import NoText
from shapestring.skins import Skin
from shapestring.winding import wound_off
from shapestring.wordtexts import read_word, show_word

C, R, L, E = ("C",), ("R",), ("L",), ("E",)

NO_TEXTS = things.THINGS + [
    # no text at all
    0, 3, C, [C, E], ["CE"], ("CE",), b"CE", {"CE"}, str, ("S", 0, 3),
    # noughts ahead
    "S00.3", "S0.03", "S00.03", "S01.3", "S0.00", "CCCS0.03EE", "S000.0", "S1.01",
    # signs that are none
    "c", "s0.3", "A", "CXE", "CE.", "CE0", "C1E", "0", "1", ".", "0.3", "C,E", "C-E", "CE;", "[CE]", "('C',)", "CEO",
    "C0.3", "E0.3", "CLERX", "cE", "CeE", "~", "!",
    # S without its numbers or its point
    "S", "S.", "S0", "S0.", "S.3", "S03", "S0 3", "S0,3", "S0:3", "S0..3", "S.0.3", "S0.3.", "S0.3.4", "SS0.3",
    "S0.S3", "S3", "CCCSEE", "CS", "CS0.", "S0.E", "S0E.3", "S-1.3", "S0.-3", "S+0.3", "S0.+3", "S1e1.3", "S0x1.3",
    "S0_0.3", "S1_0.3", "S0.1_0",
    # blanks, line feeds, tabs
    " ", " CE", "CE ", "C E", "S 0.3", "S0 .3", "S0. 3", "S0.3 ", "S0.3 E", "\n", "CE\n", "\nCE", "C\nE", "S0.3\n",
    "S0.\n3", "S\n0.3", "\t", "C\tE", "CE\t", "S0.3\tE", "S\t0.3",
]


def is_refused(text):
    try:
        read_word(text)
    except NoText:
        return True
    return False


def letters_of(text):
    """The letters by a slow reading, or None."""
    number = "(0|[1-9][0-9]*)"
    if not re.fullmatch(f"([CRLE]|S{number}[.]{number})*", text):
        return None
    found = re.findall(f"([CRLE])|S{number}[.]{number}", text)
    return [(sign,) if sign else ("S", int(j), int(k)) for sign, j, k in found]


class ShowTest(unittest.TestCase):

    def test_by_hand(self):
        self.assertEqual(show_word([]), "")
        self.assertEqual(show_word([C]), "C")
        self.assertEqual(show_word([C, C, L, E]), "CCLE")
        self.assertEqual(show_word([C, C, C, ("S", 0, 3), E, E]), "CCCS0.3EE")
        self.assertEqual(show_word([R, ("S", 12, 0), ("S", 0, 100), L]), "RS12.0S0.100L")

    def test_words_of_skins(self):
        self.assertEqual(show_word(wound_off(Skin(shapes.torus()), (0, 1))[0]), "CCCCCLS0.3S1.3LRS0.3ELE")

    def test_nothing_handed_in_is_changed(self):
        word = [C, C, C, ("S", 0, 3), E, E]
        self.assertEqual(show_word(word), show_word(word))
        self.assertEqual(word, [C, C, C, ("S", 0, 3), E, E])


class ReadTest(unittest.TestCase):

    def test_by_hand(self):
        self.assertEqual(read_word(""), [])
        self.assertEqual(read_word("CE"), [C, E])
        self.assertEqual(read_word("CCCS0.3EE"), [C, C, C, ("S", 0, 3), E, E])
        self.assertEqual(read_word("S0.3"), [("S", 0, 3)])
        self.assertEqual(read_word("S10.0S0.10S100.200"), [("S", 10, 0), ("S", 0, 10), ("S", 100, 200)])

    def test_whether_it_is_a_word_or_not(self):
        self.assertEqual(read_word("EERLS0.0S7.1"), [E, E, R, L, ("S", 0, 0), ("S", 7, 1)])
        self.assertEqual(read_word("R"), [R])

    def test_long_texts(self):
        self.assertEqual(read_word("C" * 4000), [C] * 4000)
        many = int("9" * 1900)
        self.assertEqual(read_word("S" + "9" * 1900 + "." + "9" * 1900), [("S", many, many)])

    def test_kinds_of_what_is_told(self):
        told = read_word("CS0.3")
        self.assertIs(type(told), list)
        self.assertEqual([type(letter) for letter in told], [tuple, tuple])
        self.assertEqual([type(each) for each in told[1]], [str, int, int])

    def test_written_and_read_again(self):
        for name, triples in shapes.skins():
            for side in slowly.chosen_sides(triples, 4):
                word = wound_off(Skin(triples), side)[0]
                self.assertEqual(read_word(show_word(word)), word)
        chance = random.Random(14)
        for turn in range(300):
            letters = [chance.choice([C, R, L, E, ("S", chance.randrange(30), chance.randrange(300))])
                       for k in range(chance.randrange(200))]
            self.assertEqual(read_word(show_word(letters)), letters)

    def test_told_lists_are_the_askers(self):
        read_word("CE").clear()
        self.assertEqual(read_word("CE"), [C, E])


class RefusedTest(unittest.TestCase):

    def test_what_is_no_such_text(self):
        for text in NO_TEXTS:
            with self.subTest(text=object.__repr__(text)):
                self.assertTrue(is_refused(text))

    def test_all_short_texts(self):
        read = 0
        for length in range(7):
            for signs in itertools.product("CS03.\n" if length > 5 else "CRS01. x", repeat=length):
                text = "".join(signs)
                asked = letters_of(text)
                if asked is None:
                    self.assertTrue(is_refused(text), text)
                else:
                    self.assertEqual(read_word(text), asked)
                    self.assertEqual(show_word(asked), text)
                    read += 1
        self.assertGreater(read, 100)

    def test_figures_of_other_scripts(self):
        for sign in ("\u00b2", "\u0663", "\uff12", "\u2162"):
            self.assertTrue(is_refused("S0." + sign))
            self.assertTrue(is_refused("S" + sign + ".3"))
            self.assertTrue(is_refused("S0.3" + sign))


if __name__ == "__main__":
    unittest.main()
