"""Point 16: words and caps written as bits, and read again."""

import itertools
import random
import unittest

import samples
import shapes
import slowcodes
import slowly
import things
from shapestring.bits import bits_of, read_bits
from shapestring.errors import NoCode
from shapestring.skins import Skin
from shapestring.winding import wound_off
from shapestring.words import wound_on
from shapestring.wordtexts import read_word

C, R, L, E = ("C",), ("R",), ("L",), ("E",)
TORUS_WORD = read_word("CCCCCLS0.3S1.3LRS0.3ELE")
TORUS_BITS = ("1" "00000" "110" "100" "1" "00100" "100" "010" "00100" "110" "101" "100" "1" "00100" "111" "110" "111"
              "1")
TRIANGLE_BITS = "0" "00110111" "010" "00100"

NO_CODES = things.THINGS + [
    # no text at all
    0, 1, 10, C, [C, E], ([C, E], []), b"001111", ["001111"], ("001111",), ["0", "0", "1", "1", "1", "1"], {"001111"},
    {"001111": 1}, str, 1111,
    # other signs
    "", " ", "\n", "001111 ", " 001111", "001111\n", "001 111", "00111\t1", "00111x", "002111", "O01111", "CE", "CEE",
    "0b001111", "+001111", "-001111", "0_01111", "001111.",
    # cut off, or more behind
    "0", "1", "00", "01", "000", "0011", "00111", "0011110", "0011111", "00111100", "001111001111",
    # the front goes on without an end
    "0" * 200, "1" + "0" * 400, "0" + "100" * 60, "1" * 200, "0" + "101" * 60,
]


def is_refused(text):
    try:
        read_bits(text)
    except NoCode:
        return True
    return False


def all_codes(longest):
    """The bits of all words of so many letters at most with all their caps, with those words and caps."""
    told = []
    for word in slowly.all_words(longest)[0]:
        many = word.count(C) + 2
        for length in range(many - 2):
            for caps in itertools.combinations(range(3, many), length):
                if slowly.wound_on(word, list(caps)) is not None:
                    told.append((slowcodes.bits_of(word, list(caps)), (word, list(caps))))
    return told


def words_and_caps():
    return samples.words_of_skins() + samples.words_of_parts(25) + eleven_caps()


def eleven_caps():
    told = []
    for many in range(1, 12):
        for triples in (shapes.pierced(shapes.TETRAHEDRON, many), shapes.pierced(shapes.torus(), many)):
            told.append(wound_off(Skin(triples), triples[many][:2])[:2])
    return told


class BitsTest(unittest.TestCase):

    def test_by_hand(self):
        self.assertEqual(bits_of([C, E], []), "001111")
        self.assertEqual(bits_of([C, C, L, E], []), "0001101111")
        self.assertEqual(bits_of([C, C, L, E], [3]), TRIANGLE_BITS)
        self.assertEqual(bits_of(read_word("CCCCLS0.3EE"), [3]), "0" "0000" "110" "100" "111" "111" "010" "00100")
        self.assertEqual(bits_of(read_word("CCCLRE"), [3]), "0" "000" "110" "101" "111" "010" "00100")

    def test_places_where_there_is_a_join(self):
        self.assertEqual(bits_of(TORUS_WORD, []), TORUS_BITS)

    def test_caps_each_less_the_one_ahead(self):
        word, caps, corners = wound_off(Skin(shapes.sleeve(5)), (0, 1))
        self.assertEqual(len(caps), 2)
        asked = "".join(slowcodes.number_bits(n) for n in (2, caps[0], caps[1] - caps[0]))
        self.assertTrue(bits_of(word, caps).endswith(asked))
        self.assertEqual(slowcodes.number_bits(2), "011")

    def test_held_against_the_slow_reading(self):
        for word, caps in words_and_caps():
            handed = (list(word), list(caps))
            told = bits_of(word, caps)
            self.assertIs(type(told), str)
            self.assertEqual(told, slowcodes.bits_of(word, caps))
            self.assertEqual((word, caps), handed)
            self.assertEqual(bits_of(word, caps), told)

    def test_the_number_of_bits_without_handles(self):
        found = 0
        for word, caps in words_and_caps():
            corners = wound_on(word, caps).corners()
            if not any(samples.is_join(letter) for letter in word):
                of_caps = len(slowcodes.bits_of([], caps)) - 1
                self.assertEqual(len(bits_of(word, caps)), 3 * len(word) - 2 * len(corners + caps) + 5 + of_caps)
                found += 1
        self.assertGreater(found, 60)

    def test_unlike_words_or_caps_have_unlike_bits(self):
        seen = {}
        for bits, told in all_codes(10):
            self.assertEqual(bits_of(*told), bits)
            self.assertEqual(seen.setdefault(bits, told), told)
        for word, caps in words_and_caps():
            bits = bits_of(word, caps)
            self.assertEqual(seen.setdefault(bits, (word, caps)), (word, caps))
        self.assertGreater(len(seen), 300)


class ReadTest(unittest.TestCase):

    def hold(self, word, caps):
        told = read_bits(slowcodes.bits_of(word, caps))
        self.assertEqual(told, (word, caps))
        self.assertIs(type(told), tuple)
        self.assertEqual([type(each) for each in told], [list, list])
        self.assertEqual({type(letter) for letter in told[0]}, {tuple})
        numbers = [number for letter in told[0] for number in letter[1:]] + told[1]
        self.assertLessEqual({type(number) for number in numbers}, {int})

    def test_by_hand(self):
        self.assertEqual(read_bits("001111"), ([C, E], []))
        self.assertEqual(read_bits(TRIANGLE_BITS), ([C, C, L, E], [3]))
        self.assertEqual(read_bits(TORUS_BITS), (TORUS_WORD, []))

    def test_there_and_back(self):
        joins = 0
        for word, caps in words_and_caps():
            self.hold(word, caps)
            joins += any(samples.is_join(letter) for letter in word)
        self.assertGreater(joins, 40)

    def test_all_short_words_with_all_their_caps(self):
        for bits, (word, caps) in all_codes(10):
            self.hold(word, caps)

    def test_no_caps_one_and_several_up_to_eleven(self):
        found = {len(caps) for word, caps in words_and_caps()}
        self.assertLessEqual(set(range(12)), found)

    def test_up_to_two_hundred_letters(self):
        for word in samples.words_of_rows(6, 120) + [wound_off(Skin(shapes.spindle(100)), (2, 3))[0]]:
            if len(word) <= 200:
                self.hold(word, [])
        word, caps, corners = wound_off(Skin(shapes.wheel(100)), (50, 51))
        self.assertEqual(len(word), 200)
        self.hold(word, caps)
        word, caps, corners = wound_off(Skin(shapes.rings(16)), (0, 1))
        self.assertEqual(len(word), 194)
        self.hold(word, caps)

    def test_told_lists_are_the_askers(self):
        for bits in (TRIANGLE_BITS, TORUS_BITS):
            before = read_bits(bits)
            for each in read_bits(bits):
                each.clear()
            read_bits(bits)[0][0] = None
            self.assertEqual(read_bits(bits), before)


class RefusedTest(unittest.TestCase):

    def test_what_are_no_such_bits(self):
        for text in NO_CODES:
            with self.subTest(text=object.__repr__(text)):
                self.assertTrue(is_refused(text))

    def test_all_texts_of_up_to_fourteen_bits(self):
        codes = dict(all_codes(8))
        read = 0
        for length in range(15):
            for figures in itertools.product("01", repeat=length):
                text = "".join(figures)
                if text in codes:
                    self.assertEqual(read_bits(text), codes[text])
                    read += 1
                else:
                    self.assertTrue(is_refused(text), text)
        self.assertGreater(read, 2)

    def hold_is_code(self, text):
        """Whatever is read is a word with caps that has just these bits."""
        try:
            word, caps = read_bits(text)
        except NoCode:
            return 0
        self.assertEqual(slowcodes.bits_of(word, caps), text)
        self.assertIsNotNone(slowly.wound_on(word, caps))
        return 1

    def test_a_bit_turned_over_put_in_or_taken_out(self):
        chance = random.Random(16)
        codes = [bits for bits, told in all_codes(10) if chance.randrange(8) == 0]
        codes += [slowcodes.bits_of(word, caps) for word, caps in words_and_caps() if len(word) < 40][::4]
        for bits in codes + [TORUS_BITS, TRIANGLE_BITS]:
            for at in range(0, len(bits), 1 + len(bits) // 30):
                turned = "1" if bits[at] == "0" else "0"
                self.hold_is_code(bits[:at] + turned + bits[at + 1:])
                self.hold_is_code(bits[:at] + turned + bits[at:])
                self.hold_is_code(bits[:at] + bits[at + 1:])

    def test_each_bit_of_a_triangle_turned_over(self):
        # None of these is the bits of another word with caps.
        codes = dict(all_codes(10))
        for at in range(len(TRIANGLE_BITS)):
            turned = "1" if TRIANGLE_BITS[at] == "0" else "0"
            text = TRIANGLE_BITS[:at] + turned + TRIANGLE_BITS[at + 1:]
            self.assertNotIn(text, codes)
            self.assertTrue(is_refused(text), at)

    def test_cut_off_and_more_behind(self):
        for bits in [TORUS_BITS, TRIANGLE_BITS] + [slowcodes.bits_of(*each) for each in eleven_caps()[::5]]:
            for at in range(0, len(bits), 1 + len(bits) // 60):
                self.assertTrue(is_refused(bits[:at]))
            self.assertTrue(is_refused(bits[:-1]))
            for more in ("0", "1", "00", "010", "11111", bits):
                self.assertTrue(is_refused(bits + more))

    def test_letters_that_are_no_word(self):
        for text in ("CCCS0.3EE", "CCRE", "CCCCCS0.5S0.3EEE", "CCCRLE", "E", "EE", "CCE", "CLE", "CEE", "CECE",
                     "CCCCCLS0.3S1.1LRS0.3ELE", "CCCCCLS0.3S1.3LRS0.3ELR", "S1.0", "CS1.0", "S0.3", "CS0.3EE",
                     "CCCCCLS0.3S2.3LRS0.3ELE", "CCCCCLS0.3S1.9LRS0.3ELE"):
            for caps in ([], [3]):
                self.assertTrue(is_refused(slowcodes.bits_of(read_word(text), caps)), text)

    def test_no_letters_at_all(self):
        for first in "01":
            for caps in ([], [3]):
                self.assertTrue(is_refused(first + slowcodes.bits_of([], caps)[1:]))

    def test_a_first_bit_that_is_not_the_words(self):
        self.assertTrue(is_refused("0" + TORUS_BITS[1:]))
        for word, caps in [([C, E], []), ([C, C, L, E], [3]), (read_word("CCCCLS0.3EE"), [3])]:
            bits = slowcodes.bits_of(word, caps)
            self.assertTrue(is_refused("1" + bits[1:]))
        # With its places told, too, as if there was a join.
        told = "1" "0000" "110" "100" "1" "00100" "111" "111" "010" "00100"
        self.assertTrue(is_refused(told))
        self.assertEqual(read_bits("0" "0000" "110" "100" "111" "111" "010" "00100")[0], read_word("CCCCLS0.3EE"))
        # And a word with a join without its places.
        signs = "".join(slowcodes.CODES[letter[0]] for letter in TORUS_WORD)
        self.assertTrue(is_refused("0" + signs + "1"))

    def test_caps_for_which_no_skin_is_told(self):
        refused = 0
        for word in slowly.all_words(8)[0] + [TORUS_WORD]:
            many = word.count(C) + 2
            for length in range(1, 4):
                for caps in itertools.combinations_with_replacement(range(many + 2), length):
                    bits = slowcodes.bits_of(word, list(caps))
                    if slowly.wound_on(word, list(caps)) is None:
                        self.assertTrue(is_refused(bits), (word, caps))
                        refused += 1
                    else:
                        self.assertEqual(read_bits(bits), (word, list(caps)))
        self.assertGreater(refused, 300)

    def test_numbers_of_many_figures(self):
        for number in (2 ** 64, 10 ** 60, 2 ** 900):
            self.assertTrue(is_refused("0" "00110111" + slowcodes.number_bits(number)))
            self.assertTrue(is_refused("0" "00110111" "010" + slowcodes.number_bits(number)))
            self.assertTrue(is_refused("1" "000" "100" + slowcodes.number_bits(number) * 2 + "1111"))
        self.assertTrue(is_refused("0" "00110111" + "0" * 3900 + "1"))

    def test_more_than_two_hundred_triangles(self):
        # A word of 202 letters without caps is wound on to no skin; with its cap less than two hundred are left.
        word, caps, corners = wound_off(Skin(shapes.wheel(101)), (50, 51))
        self.assertEqual((len(word), len(caps)), (202, 1))
        self.assertTrue(is_refused(slowcodes.bits_of(word, [])))
        self.assertEqual(read_bits(slowcodes.bits_of(word, caps)), (word, caps))

    def test_another_sign_at_each_place(self):
        for bits in (TRIANGLE_BITS, TORUS_BITS):
            for at in range(len(bits)):
                for sign in ("2", "x", " ", "\n", "-", "\uff11", "\u0661"):
                    self.assertTrue(is_refused(bits[:at] + sign + bits[at + 1:]), (at, sign))

    def test_figures_of_other_scripts(self):
        for sign in ("\u0661", "\uff11", "\u00b9"):
            self.assertTrue(is_refused("00111" + sign))
            self.assertTrue(is_refused(sign + "01111"))


if __name__ == "__main__":
    unittest.main()
