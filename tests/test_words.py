"""Points 12 and 13: words ended, and wound on to skins."""

import copy
import itertools
import unittest

import samples
import shapes
import slowly
import things
from shapestring.errors import NoCaps, NoWord
from shapestring.pieces import counted
from shapestring.skins import Skin
from shapestring.winding import wound_off
from shapestring.words import ended, wound_on
from shapestring.wordtexts import read_word

C, R, L, E = ("C",), ("R",), ("L",), ("E",)
TORUS_WORD = read_word("CCCCCLS0.3S1.3LRS0.3ELE")


def refused_at(told_by, letters):
    """The value at of the NoWord that is raised, or None."""
    try:
        told_by(letters)
    except NoWord as e:
        return e.at
    return None


class EndedTest(unittest.TestCase):

    def hold_ended(self, row):
        handed = copy.deepcopy(row)
        told = ended(handed)
        self.assertEqual(handed, row)
        self.assertIs(type(told), list)
        front = slowly.put_all(row + told)
        self.assertNotIsInstance(front, int, (row, told))
        self.assertEqual(front[0], [], (row, told))
        for letter in told:
            self.assertIs(type(letter), tuple)
            self.assertLessEqual({type(number) for number in letter[1:]}, {int})
        return told

    def test_behind_a_word_none(self):
        for word in slowly.all_words(9)[0] + [TORUS_WORD] + [word for word, caps in samples.words_of_skins()]:
            self.assertEqual(ended(word), [])

    def test_the_empty_row(self):
        self.assertNotEqual(self.hold_ended([]), [])

    def test_all_rows_of_up_to_nine_letters(self):
        for longest in range(1, 10):
            for row in slowly.all_words(longest)[1]:
                self.assertNotEqual(self.hold_ended(row), [])

    def test_each_beginning_of_a_word(self):
        for word, caps in samples.words_of_skins():
            for length in range(0, len(word), 1 + len(word) // 12):
                self.assertNotEqual(self.hold_ended(word[:length]), [])
        for length in range(len(TORUS_WORD)):
            self.hold_ended(TORUS_WORD[:length])

    def test_chosen_rows(self):
        for seed in range(60):
            row = slowly.chosen_row(seed, 45)
            for length in range(len(row) + 1):
                if length % 9 == seed % 9:
                    self.hold_ended(row[:length])

    def test_two_hundred_letters(self):
        self.hold_ended([C] * 200)
        for seed in range(3):
            self.hold_ended(slowly.chosen_row(seed, 200))

    def test_a_loop_that_only_new_corners_can_fill(self):
        row = crowded_row()
        self.assertIn(C, self.hold_ended(row))

    def test_what_is_ended_is_wound_on(self):
        for seed in range(30):
            row = slowly.chosen_row(seed, 30)
            self.assertIsInstance(wound_on(row + ended(row)), Skin)

    def test_told_lists_are_the_askers(self):
        row = [C, C, C]
        before = ended(row)
        ended(row).clear()
        ended(row)[0] = None
        self.assertEqual(ended(row), before)
        self.assertEqual(row, [C, C, C])


def crowded_row():
    """A row behind which no letter but C can be put."""
    for seed in range(400):
        row = slowly.chosen_row(seed, 40)
        for length in range(2, len(row)):
            front = slowly.put_all(row[:length])
            if all(letter == C or letter[0] == "S" and letter[1] > 0 for letter in slowly.letters_for(front)):
                return row[:length]
    raise AssertionError("no such row found")


class NoWordTest(unittest.TestCase):

    def hold_at(self, letters, at):
        before = list(letters)
        self.assertEqual(refused_at(ended, letters), at)
        self.assertEqual(refused_at(wound_on, letters), at)
        self.assertEqual([id(each) for each in letters], [id(each) for each in before])

    def test_the_first_letter_that_cannot_be_put(self):
        for letter in (R, L, E, ("S", 0, 3), ("S", 1, 0)):
            self.hold_at([letter], 0)
            self.hold_at([letter, C, E], 0)
        self.hold_at([C, R], 1)
        self.hold_at([C, C, R, L], 2)
        self.hold_at([C, C, E], 2)
        self.hold_at([C, C, C, ("S", 0, 3), E, E], 3)
        self.hold_at(read_word("CCCCCLS0.3S1.3LRS0.3ELR"), 13)
        self.hold_at(read_word("CCCCCLS0.3S1.1LRS0.3ELE"), 7)

    def test_the_first_of_several(self):
        self.hold_at([C, None, R, E], 1)
        self.hold_at([C, C, L, L, None], 3)

    def test_letters_behind_a_word(self):
        for word in slowly.all_words(9)[0]:
            for letter in (C, R, L, E, ("S", 0, 3), ("S", 1, 0), None):
                self.hold_at(word + [letter], len(word))
        self.hold_at([C, E, C, E], 2)

    def test_things_that_are_no_letters(self):
        wrong = things.THINGS + ["C", "", ["C"], ("c",), ("S",), ("S", 0), ("S", 0, 3, 0), ("C", 0), ("S", False, 3),
                                 ("S", 0, True), ("S", "0", "3"), ("S", 0, 3.0), ("S", 0, 10 ** 5000), ("X",), 0, 1]
        for thing in wrong:
            with self.subTest(thing=object.__repr__(thing)):
                self.hold_at([thing], 0)
                self.hold_at([C, thing], 1)
                self.hold_at([C, C, C, C, C, L, thing, C], 6)
                self.hold_at([C, E, thing], 2)
                self.hold_at([C, thing, thing], 1)

    def test_all_rows_of_a_few_letters(self):
        letters = [C, R, L, E, ("S", 0, 3), None]
        for length in range(6):
            for row in itertools.product(letters, repeat=length):
                row = list(row)
                told = row.index(None) if None in row else len(row)
                slow = slowly.put_all(row[:told])
                at = slow if isinstance(slow, int) else told if told < len(row) else None
                self.assertEqual(refused_at(ended, row), at)
                if at is None and slow[0]:
                    at = len(row)
                self.assertEqual(refused_at(wound_on, row), at)

    def test_changed_words(self):
        """A letter of a word gives way to another one."""
        for seed in range(12):
            row = slowly.chosen_row(seed, 30)
            for at in range(0, len(row), 3):
                for letter in (C, R, L, E, ("S", 0, 3), ("S", 1, 1)):
                    other = row[:at] + [letter] + row[at + 1:]
                    slow = slowly.put_all(other)
                    self.assertEqual(refused_at(ended, other), slow if isinstance(slow, int) else None)

    def test_wound_on_where_the_front_is_not_done(self):
        for row in [[], [C], [C, C], [C, C, L], [C] * 200] + slowly.all_words(7)[1]:
            self.assertEqual(refused_at(wound_on, row), len(row))
        for length in range(len(TORUS_WORD)):
            self.assertEqual(refused_at(wound_on, TORUS_WORD[:length]), length)


class WoundOnTest(unittest.TestCase):

    def test_by_hand(self):
        self.assertEqual(wound_on([C, E]).triangles(), [(0, 1, 2), (0, 2, 1)])
        self.assertEqual(wound_on([C, C, L, E]).triangles(), [(0, 1, 2), (0, 2, 3), (0, 3, 1), (1, 3, 2)])
        self.assertEqual(wound_on([C, C, L, E], [3]).triangles(), [(0, 1, 2)])
        self.assertEqual(wound_on(read_word("CCLCLE"), [3]).triangles(), [(0, 1, 2), (1, 4, 2)])

    def test_a_skin_is_told(self):
        self.assertIsInstance(wound_on([C, E]), Skin)
        self.assertIsInstance(wound_on([C, C, L, E], [3]), Skin)

    def test_the_empty_list_of_caps_and_none(self):
        for word in slowly.all_words(8)[0] + [TORUS_WORD]:
            asked = shapes.slow_triangles(slowly.put_all(word)[1])
            self.assertEqual(wound_on(word).triangles(), asked)
            self.assertEqual(wound_on(word, None).triangles(), asked)
            self.assertEqual(wound_on(word, []).triangles(), asked)

    def test_corners_triangles_and_handles_of_a_word(self):
        for seed in range(30):
            row = slowly.chosen_row(seed, 30)
            word = row + ended(row)
            joins = [letter for letter in word if letter[0] == "S" and letter[1] > 0]
            six = counted(wound_on(word))
            self.assertEqual((six[0], six[2:]), (word.count(C) + 2, (len(word), 1, len(joins), 0)))

    def hold_there_and_back(self, triples, side):
        word, caps, corners = wound_off(Skin(triples), side)
        handed = (list(word), list(caps))
        skin = wound_on(word, caps)
        self.assertEqual((word, caps), handed)
        piece = [triple for triple in triples if triple[0] in corners]
        named = [tuple(corners[number] for number in triple) for triple in skin.triangles()]
        self.assertEqual(shapes.slow_triangles(named), shapes.slow_triangles(piece))
        numbers = [None if corner is None else at for at, corner in enumerate(corners)]
        self.assertEqual(wound_off(skin, (0, 1)), (word, caps, numbers))
        six = counted(skin)
        self.assertEqual(six, counted(Skin(piece)))
        self.assertEqual((six[0] + len(caps), six[5]), (word.count(C) + 2, len(caps)))

    def test_there_and_back(self):
        for name, triples in shapes.skins():
            with self.subTest(name=name):
                for side in slowly.chosen_sides(triples, 60 if len(triples) < 90 else 6):
                    self.hold_there_and_back(triples, side)

    def test_there_and_back_of_chosen_skins(self):
        for seed in range(40):
            whole = slowly.chosen_closed(seed, 30)
            for triples in (whole, shapes.part_of(whole, seed)):
                for side in slowly.chosen_sides(triples, 4):
                    self.hold_there_and_back(triples, side)

    def test_two_hundred_letters(self):
        word = wound_off(Skin(shapes.spindle(100)), (2, 3))[0]
        self.assertEqual(len(word), 200)
        self.assertEqual(len(wound_on(word).triangles()), 200)
        word, caps, corners = wound_off(Skin(shapes.wheel(100)), (5, 6))
        self.assertEqual(len(word), 200)
        self.assertEqual(len(wound_on(word, caps).triangles()), 100)

    def test_a_skin_of_two_hundred_with_a_rim_comes_back(self):
        for triples in (shapes.wheel(200), shapes.fan(200)):
            self.hold_there_and_back(triples, (0, 1))


class CapsTest(unittest.TestCase):

    def hold_caps(self, word, caps):
        asked = slowly.wound_on(word, caps)
        handed = (list(word), list(caps))
        if asked is None:
            with self.assertRaises(NoCaps, msg=(word, caps)):
                wound_on(word, caps)
        else:
            self.assertEqual(wound_on(word, caps).triangles(), asked, (word, caps))
        self.assertEqual((word, caps), handed)
        return asked is not None

    def test_all_lists_of_a_few_numbers_of_all_short_words(self):
        taken = 0
        for word in slowly.all_words(9)[0]:
            many = word.count(C) + 2
            for length in range(4):
                for caps in itertools.product(range(-1, many + 2), repeat=length):
                    if length < 3 or caps == tuple(sorted(caps)):
                        taken += self.hold_caps(word, list(caps))
        self.assertGreater(taken, 50)

    def test_all_lists_of_rising_numbers_of_longer_words(self):
        taken = {}
        for seed in range(12):
            row = slowly.chosen_row(seed, 24)
            word = row + ended(row)
            many = word.count(C) + 2
            for length in (1, 2, 3):
                for caps in itertools.islice(itertools.combinations(range(3, many), length), 0, None, length):
                    if self.hold_caps(word, list(caps)):
                        taken[length] = taken.get(length, 0) + 1
        self.assertGreater(taken.get(1, 0), 20)
        self.assertGreater(taken.get(2, 0), 0)

    def test_not_rising(self):
        word, caps, corners = wound_off(Skin(shapes.sleeve(5)), (0, 1))
        self.assertEqual(len(caps), 2)
        self.assertEqual(len(wound_on(word, caps).triangles()), 10)
        for wrong in (caps[::-1], caps + caps[1:], caps[:1] + caps, caps[:1] * 2):
            with self.assertRaises(NoCaps):
                wound_on(word, wrong)

    def test_some_of_the_caps(self):
        """A skin is told, too, where one cap stays a corner."""
        word, caps, corners = wound_off(Skin(shapes.sleeve(5)), (0, 1))
        for some in ([], caps[:1], caps[1:]):
            self.assertEqual(counted(wound_on(word, some))[5], len(some))

    def test_numbers_that_cannot_be_caps(self):
        for wrong in ([0], [1], [2], [-1], [-3], [4], [5], [100], [10 ** 60], [2, 3], [0, 3], [3, 4], [-1, 3], [3, 3]):
            with self.assertRaises(NoCaps):
                wound_on([C, C, L, E], wrong)

    def test_corners_whose_leaving_is_no_skin(self):
        # About 2 two triangles are left that don't hang together.
        with self.assertRaises(NoCaps):
            wound_on(*self.leaving_no_skin())

    def leaving_no_skin(self):
        for word in slowly.all_words(10)[0]:
            for caps in itertools.combinations(range(3, word.count(C) + 2), 2):
                left = shapes.without_corners(slowly.put_all(word)[1], caps)
                if left and shapes.slow_fault(left) is not None:
                    return (word, list(caps))
        raise AssertionError("no such word found")

    def test_corners_whose_rounds_turned_about_are_no_rims(self):
        # Two corners with a side of theirs leave a skin with one rim.
        word = read_word("CCCLCLLE")
        self.assertEqual(shapes.slow_fault(shapes.without_corners(slowly.put_all(word)[1], [3, 4])), None)
        with self.assertRaises(NoCaps):
            wound_on(word, [3, 4])
        # And nothing is left of this one: no triples are a skin, but one without rims.
        with self.assertRaises(NoCaps):
            wound_on(word, [3, 4, 5])

    def test_things_of_any_kind(self):
        for thing in things.THINGS + [3.0, "3", (3,), [3], {3}, 10 ** 5000, -10 ** 5000]:
            with self.subTest(thing=object.__repr__(thing)):
                for caps in ([thing], [3, thing], [thing, 3], [thing, thing]):
                    with self.assertRaises(NoCaps):
                        wound_on([C, C, L, E], caps)

    def test_truths_are_no_numbers(self):
        for caps in ([True], [False], [True, 3], [False, 3], [3, True]):
            with self.assertRaises(NoCaps):
                wound_on([C, C, L, E], caps)

    def test_no_word_goes_ahead_of_no_caps(self):
        for caps in ([0], [None], [3, 3], [99], [things.Strange()]):
            for letters, at in (([C, C, L], 3), ([C, C, L, E, C], 4), ([R], 0), ([], 0), ([C, None], 1)):
                with self.assertRaises(NoWord) as caught:
                    wound_on(letters, caps)
                self.assertEqual(caught.exception.at, at)

    def test_a_later_change_does_not_matter(self):
        word, caps = [C, C, L, E], [3]
        skin = wound_on(word, caps)
        word.clear()
        caps.append(4)
        self.assertEqual(skin.triangles(), [(0, 1, 2)])


if __name__ == "__main__":
    unittest.main()
