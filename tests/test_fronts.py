"""Point 10: fronts, and the letters put on them."""

import unittest

import slowly
import things
from shapestring.errors import NoLetter
from shapestring.fronts import Front

C, R, L, E = ("C",), ("R",), ("L",), ("E",)

NO_LETTERS = things.THINGS + [
    "C", "R", "L", "E", "S", "", "CE", "S0.3", ["C"], ["S", 0, 3], ("c",), ("X",), ("",), ("CC",), (" C",), ("C\n",),
    ("S",), ("S", 0), ("S", 0, 3, 0), ("S", (0, 3)), ("S0.3",), ("C", 0), ("C", 0, 0), ("C", "C"), ("E", 0, 3),
    ("R", None, None), ("L", 0, 0), ("C", None), ("s", 0, 3), ("SS", 0, 3), (b"C",), (b"S", 0, 3), (67,), (0, 0, 3),
    ("S", False, 3), ("S", True, 0), ("S", 0, True), ("S", 1, True), ("S", 1, False), ("S", "0", "3"), ("S", 0, "3"),
    ("S", None, 3), ("S", 0, None), ("S", 0.0, 3), ("S", 0, 3.0), ("S", 1, 0.0), ("S", [0], 3), ("S", 0, [3]),
    ("S", 10 ** 5000, 0), ("S", 0, 10 ** 5000), ("S", 1, 10 ** 5000), ("S", -10 ** 5000, 3), ({"C"},), (["C"],),
    (("C",),), ("C", ()), C + C, [C], {"C": 1}, {0: "C"},
]


def front_of(letters):
    front = Front()
    for letter in letters:
        front.put(letter)
    return front


def told_by(front):
    return (front.loops(), front.gate(), front.come(), front.triples())


def can_put(front, letter):
    try:
        front.put(letter)
    except NoLetter:
        return False
    return True


class LettersTest(unittest.TestCase):

    def hold_put(self, letters, letter, triple, loops):
        front = front_of(letters)
        before = front.triples()
        many = front.come()
        self.assertEqual(front.put(letter), triple)
        self.assertEqual(front.loops(), loops)
        self.assertEqual(front.gate(), tuple(loops[-1][:2]) if loops else None)
        self.assertEqual(front.triples(), before + [triple])
        self.assertEqual(front.come(), many + 1 if letter == C else many)

    def test_the_beginning(self):
        self.assertEqual(told_by(Front()), ([[0, 1]], (0, 1), 2, []))

    def test_c(self):
        self.hold_put([], C, (0, 1, 2), [[0, 2, 1]])
        self.hold_put([C], C, (0, 2, 3), [[0, 3, 2, 1]])
        self.hold_put([C, C], C, (0, 3, 4), [[0, 4, 3, 2, 1]])

    def test_e(self):
        self.hold_put([C], E, (0, 2, 1), [])
        self.hold_put([C, C, L], E, (1, 3, 2), [])

    def test_l(self):
        self.hold_put([C, C], L, (0, 3, 1), [[1, 3, 2]])
        self.hold_put([C, C, C], L, (0, 4, 1), [[1, 4, 3, 2]])

    def test_r(self):
        self.hold_put([C, C, C, L], R, (1, 4, 3), [[1, 3, 2]])
        self.hold_put([C, C, C, C, L], R, (1, 5, 4), [[1, 4, 3, 2]])

    def test_parting(self):
        row = [C, C, C, C, C, L]
        self.assertEqual(front_of(row).loops(), [[1, 6, 5, 4, 3, 2]])
        self.hold_put(row, ("S", 0, 3), (1, 6, 4), [[1, 4, 3, 2], [4, 6, 5]])
        self.hold_put(row, ("S", 0, 4), (1, 6, 3), [[1, 3, 2], [3, 6, 5, 4]])

    def test_joining(self):
        row = [C] * 5 + [L, ("S", 0, 3), C, C]
        self.assertEqual(front_of(row).loops(), [[1, 4, 3, 2], [4, 8, 7, 6, 5]])
        row += [L]
        self.assertEqual(front_of(row).loops(), [[1, 4, 3, 2], [5, 8, 7, 6]])
        self.hold_put(row, ("S", 1, 0), (5, 8, 1), [[5, 1, 4, 3, 2, 1, 8, 7, 6]])
        self.hold_put(row, ("S", 1, 2), (5, 8, 3), [[5, 3, 2, 1, 4, 3, 8, 7, 6]])
        self.hold_put(row, ("S", 1, 3), (5, 8, 2), [[5, 2, 1, 4, 3, 2, 8, 7, 6]])
        # 4 has a side with 5 already.
        self.assertFalse(can_put(front_of(row), ("S", 1, 1)))

    def test_joining_a_loop_further_ahead(self):
        row = [C] * 8 + [L, ("S", 0, 5), ("S", 0, 3), C, C, L]
        self.assertEqual(front_of(row).loops(), [[1, 5, 4, 3, 2], [5, 7, 6], [8, 11, 10, 9]])
        self.hold_put(row, ("S", 1, 2), (8, 11, 6), [[1, 5, 4, 3, 2], [8, 6, 5, 7, 6, 11, 10, 9]])
        self.hold_put(row, ("S", 2, 3), (8, 11, 3), [[5, 7, 6], [8, 3, 2, 1, 5, 4, 3, 11, 10, 9]])


class HeldTest(unittest.TestCase):
    """Held against the slow reading of the document."""

    def hold_all_letters(self, letters, slow):
        """Each candidate behind the letters: those refused, then those put, each on a front of its own."""
        front = front_of(letters)
        asked = (slow[0], tuple(slow[0][-1][:2]) if slow[0] else None, slowly.come(slow), slow[1])
        self.assertEqual(told_by(front), asked)
        for letter in slowly.candidates(slow):
            told = slowly.put(slow, letter)
            if told is None:
                self.assertFalse(can_put(front, letter), (letters, letter))
                self.assertEqual(told_by(front), asked)
            else:
                other = front_of(letters)
                self.assertEqual(other.put(letter), told[0], (letters, letter))
                self.assertEqual(other.loops(), told[1][0])
                self.assertEqual(other.triples(), told[1][1])
                self.assertEqual(other.come(), slowly.come(told[1]))
        self.assertEqual(told_by(front), asked)

    def test_all_rows_of_up_to_ten_letters(self):
        fronts = [([], slowly.BEGIN)]
        many = 0
        for length in range(10):
            behind = []
            for letters, slow in fronts:
                self.hold_all_letters(letters, slow)
                many += 1
                behind += [(letters + [letter], slowly.put(slow, letter)[1]) for letter in slowly.letters_for(slow)]
            fronts = behind
        self.assertGreater(many, 300)

    def test_chosen_rows(self):
        signs = {}
        for seed in range(60):
            letters = slowly.chosen_row(seed, 40)
            slow = slowly.BEGIN
            for at, letter in enumerate(letters):
                if at % 7 == seed % 7:
                    self.hold_all_letters(letters[:at], slow)
                slow = slowly.put(slow, letter)[1]
                kind = letter[:2] if letter[0] == "S" else letter
                signs[kind] = signs.get(kind, 0) + 1
            self.hold_all_letters(letters, slow)
        for kind in (C, R, L, E, ("S", 0), ("S", 1), ("S", 2), ("S", 3)):
            self.assertGreater(signs.get(kind, 0), 3, kind)

    def test_two_hundred_letters(self):
        for seed in range(4):
            letters = slowly.chosen_row(seed, 200)
            front = front_of(letters)
            self.assertEqual((front.loops(), front.triples()), slowly.put_all(letters))
        front = front_of([C] * 200)
        self.assertEqual(front.loops(), [[0] + list(range(201, 0, -1))])
        self.assertEqual(front.come(), 202)


class RefusedTest(unittest.TestCase):

    def hold_refused(self, letters, letter):
        front = front_of(letters)
        before = told_by(front)
        with self.assertRaises(NoLetter):
            front.put(letter)
        self.assertEqual(told_by(front), before)

    def test_what_is_no_letter(self):
        rows = [[], [C], [C, C, C, C, C, L], [C] * 5 + [L, ("S", 0, 3), C, C, L], [C, E]]
        for row in rows:
            front = front_of(row)
            before = told_by(front)
            for thing in NO_LETTERS:
                with self.subTest(row=row, thing=object.__repr__(thing)):
                    with self.assertRaises(NoLetter):
                        front.put(thing)
                    self.assertEqual(told_by(front), before)

    def test_at_the_beginning_just_c_can_be_put(self):
        for letter in [R, L, E] + [("S", j, k) for j in range(-2, 3) for k in range(-2, 5)]:
            self.hold_refused([], letter)

    def test_a_loop_of_three(self):
        for letter in [R, L] + [("S", j, k) for j in range(-2, 3) for k in range(-2, 5)]:
            self.hold_refused([C], letter)

    def test_e_of_longer_loops(self):
        self.hold_refused([C, C], E)
        self.hold_refused([C, C, C], E)

    def test_sides_that_stand_already(self):
        # Of R the side of a and the third, of L that of b and the last, of S both.
        self.hold_refused([C, C], R)
        self.hold_refused([C, C, C], R)
        self.hold_refused([C, C, C], ("S", 0, 3))
        self.hold_refused([C] * 5 + [L, ("S", 0, 3), C, C, L], ("S", 1, 1))

    def test_l_where_its_side_stands_already(self):
        row = [C] * 5 + [L, ("S", 0, 3), ("S", 1, 3), L]
        self.assertEqual(front_of(row).loops(), [[5, 2, 1, 4, 3, 2, 6]])
        self.assertIn((4, 6, 2), front_of(row).triples())
        self.hold_refused(row, L)

    def test_a_third_corner_that_is_one_of_the_gate(self):
        row = [C] * 5 + [L, ("S", 0, 3)]
        self.assertEqual(front_of(row).loops(), [[1, 4, 3, 2], [4, 6, 5]])
        self.hold_refused(row, ("S", 1, 1))
        self.assertTrue(can_put(front_of(row), ("S", 1, 2)) or can_put(front_of(row), ("S", 1, 3)))

    def test_places_beyond_both_ends(self):
        row = [C, C, C, C, C, L]
        for k in (-6, -3, -2, -1, 0, 1, 2, 5, 6, 7, 100):
            self.hold_refused(row, ("S", 0, k))
        row = [C] * 5 + [L, ("S", 0, 3), C, C, L]
        for k in (-4, -2, -1, 4, 5, 100):
            self.hold_refused(row, ("S", 1, k))

    def test_loops_beyond_both_ends(self):
        row = [C] * 5 + [L, ("S", 0, 3), C, C, L]
        for j in (-3, -2, -1, 2, 3, 100):
            for k in range(5):
                self.hold_refused(row, ("S", j, k))

    def test_a_done_front(self):
        for row in ([C, E], [C, C, L, E], [C, C, C, L, R, E]):
            front = front_of(row)
            self.assertEqual(front.loops(), [])
            self.assertIsNone(front.gate())
            self.assertEqual(front.come(), 2 + row.count(C))
            self.assertEqual(len(front.triples()), len(row))
            for letter in [C, R, L, E] + [("S", j, k) for j in range(-1, 3) for k in range(-1, 5)]:
                self.hold_refused(row, letter)


class KeptApartTest(unittest.TestCase):

    def test_told_lists_and_those_within_are_the_askers(self):
        front = front_of([C] * 5 + [L, ("S", 0, 3), C])
        before = told_by(front)
        front.loops().clear()
        front.loops()[0].clear()
        front.loops()[1].reverse()
        front.triples().clear()
        front.triples()[0] = None
        self.assertEqual(told_by(front), before)
        self.assertEqual(front.put(C), (4, 7, 8))

    def test_what_was_told_stays_when_a_letter_is_put(self):
        front = front_of([C, C])
        loops, triples = front.loops(), front.triples()
        front.put(C)
        self.assertEqual((loops, triples), ([[0, 3, 2, 1]], [(0, 1, 2), (0, 2, 3)]))

    def test_two_fronts_do_not_disturb_one_another(self):
        one, other, third = Front(), Front(), Front()
        for letter in (C, C, C, L):
            one.put(letter)
            if letter == C:
                other.put(letter)
        one.put(R)
        self.assertEqual(told_by(one)[:3], ([[1, 3, 2]], (1, 3), 5))
        self.assertEqual(told_by(other)[:3], ([[0, 4, 3, 2, 1]], (0, 4), 5))
        self.assertEqual(told_by(third), ([[0, 1]], (0, 1), 2, []))
        one.put(E)
        self.assertEqual(other.put(L), (0, 4, 1))

    def test_kinds_of_what_is_told(self):
        front = front_of([C, C])
        self.assertIs(type(front.put(C)), tuple)
        self.assertIs(type(front.loops()), list)
        self.assertIs(type(front.loops()[0]), list)
        self.assertIs(type(front.gate()), tuple)
        self.assertIs(type(front.come()), int)
        self.assertIs(type(front.triples()), list)
        self.assertEqual({type(triple) for triple in front.triples()}, {tuple})


if __name__ == "__main__":
    unittest.main()
