"""Point 18: the least stretch from one word to another."""

import copy
import itertools
import unittest

import samples
import slowdeeds
import slowly
from shapestring.stretches import stretch, with_stretch
from shapestring.wordtexts import read_word

C, R, L, E = ("C",), ("R",), ("L",), ("E",)


def words_to_compare():
    words = slowly.all_words(8)[0]
    words += [word for word, caps in samples.words_of_skins(2) if len(word) < 120]
    return words + [word for word, caps in samples.words_of_parts(6)]


class ByHandTest(unittest.TestCase):

    def hold(self, one, other, at, many, letters):
        one, other = read_word(one), read_word(other)
        told = stretch(one, other)
        self.assertEqual(told, (at, many, read_word(letters)))
        self.assertEqual(with_stretch(one, told), other)

    def test_one_letter_gives_way(self):
        self.hold("CCLE", "CCRE", 2, 1, "R")
        self.hold("CCCS0.3EE", "CCCS0.4EE", 3, 1, "S0.4")
        self.hold("CE", "EE", 0, 1, "E")
        self.hold("CE", "CC", 1, 1, "C")

    def test_a_word_to_itself(self):
        self.hold("CCLE", "CCLE", 4, 0, "")
        self.hold("CE", "CE", 2, 0, "")
        self.hold("", "", 0, 0, "")

    def test_unlike_lengths(self):
        self.hold("CE", "CCLE", 1, 0, "CL")
        self.hold("CCLE", "CE", 1, 2, "")
        self.hold("CCLE", "CCLCLE", 3, 0, "CL")
        self.hold("CCLCLE", "CCLE", 3, 2, "")
        self.hold("", "CE", 0, 0, "CE")
        self.hold("CE", "", 0, 2, "")

    def test_what_is_alike_ahead_and_behind_overlaps(self):
        self.hold("CCC", "CCCCC", 3, 0, "CC")
        self.hold("CCCCC", "CCC", 3, 2, "")
        self.hold("CLCLE", "CLCLCLE", 4, 0, "CL")
        self.hold("CLCLCLE", "CLCLE", 4, 2, "")
        self.hold("CLLE", "CLLLE", 3, 0, "L")
        self.hold("CLLLE", "CLLE", 3, 1, "")
        self.hold("CRC", "CRCRC", 3, 0, "RC")

    def test_wholly_unlike(self):
        self.hold("CCC", "EE", 0, 3, "EE")
        self.hold("RL", "LR", 0, 2, "LR")

    def test_alike_ahead_alone_and_behind_alone(self):
        self.hold("CCCR", "CCCLL", 3, 1, "LL")
        self.hold("RLE", "CCLE", 0, 1, "CC")


class HeldTest(unittest.TestCase):

    def hold(self, one, other):
        handed = (list(one), list(other))
        told = stretch(one, other)
        self.assertEqual(told, slowdeeds.stretch(one, other))
        self.assertIs(type(told), tuple)
        self.assertEqual([type(each) for each in told], [int, int, list])
        kept = copy.deepcopy(told)
        self.assertEqual(with_stretch(one, told), other)
        self.assertEqual(told, kept)
        self.assertEqual((one, other), handed)

    def test_words_there_and_back_and_to_themselves(self):
        words = words_to_compare()
        for at, one in enumerate(words):
            for other in words[at % 3::3] + [one]:
                self.hold(one, other)
                self.hold(other, one)

    def test_all_rows_of_a_few_letters(self):
        rows = [list(row) for length in range(5) for row in itertools.product([C, L, ("S", 0, 3)], repeat=length)]
        for one in rows:
            for other in rows:
                self.hold(one, other)

    def test_two_hundred_letters(self):
        one = [C] * 99 + [L] * 100 + [E]
        for at in (0, 1, 98, 99, 150, 199):
            self.hold(one, one[:at] + one[at + 1:])
            self.hold(one[:at] + one[at + 1:], one)
            self.hold(one, one[:at] + [R] + one[at + 1:])


class WithStretchTest(unittest.TestCase):

    def test_any_stretch_not_the_least_alone(self):
        word = read_word("CCLE")
        self.assertEqual(with_stretch(word, (0, 4, [R])), [R])
        self.assertEqual(with_stretch(word, (1, 1, [C])), word)
        self.assertEqual(with_stretch(word, (0, 0, [])), word)
        self.assertEqual(with_stretch(word, (4, 0, [E, E])), word + [E, E])
        self.assertEqual(with_stretch(word, (2, 1, [])), [C, C, E])
        self.assertEqual(with_stretch([], (0, 0, [C])), [C])


class KeptApartTest(unittest.TestCase):

    def test_told_lists_are_the_askers(self):
        one, other = read_word("CCLE"), read_word("CCCLLE")
        before = stretch(one, other)
        stretch(one, other)[2].clear()
        stretch(one, other)[2].append(None)
        self.assertEqual(stretch(one, other), before)
        self.assertEqual((one, other), (read_word("CCLE"), read_word("CCCLLE")))

    def test_the_letters_told_are_not_the_words_own_list(self):
        one, other = [], [C, E]
        stretch(one, other)[2].clear()
        self.assertEqual(other, [C, E])

    def test_the_word_told_is_a_list_of_its_own(self):
        word, letters = [C, E], [C, L]
        told = with_stretch(word, (1, 0, letters))
        told.clear()
        self.assertEqual((word, letters), ([C, E], [C, L]))
        same = with_stretch(word, (2, 0, []))
        same.append(None)
        self.assertEqual(word, [C, E])
        whole = with_stretch([], (0, 0, letters))
        whole.append(None)
        self.assertEqual(letters, [C, L])


if __name__ == "__main__":
    unittest.main()
