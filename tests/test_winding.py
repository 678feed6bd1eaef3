"""Point 11: a piece wound off from a side."""

import unittest

import shapes
import slowly
import things
from shapestring.errors import NoSide
from shapestring.fronts import Front
from shapestring.pieces import counted, pieces
from shapestring.rims import rims
from shapestring.skins import Skin
from shapestring.winding import wound_off
from shapestring.wordtexts import read_word

BIG = shapes.BIG


def front_of(word):
    front = Front()
    for letter in word:
        front.put(letter)
    return front


class ByHandTest(unittest.TestCase):

    def hold(self, triples, side, text, caps, corners):
        self.assertEqual(wound_off(Skin(triples), side), (read_word(text), caps, corners))

    def test_closed_skins(self):
        self.hold([(0, 1, 2), (0, 2, 1)], (2, 0), "CE", [], [2, 0, 1])
        self.hold(shapes.TETRAHEDRON, (0, 1), "CCLE", [], [0, 1, 2, 3])
        self.hold(shapes.TETRAHEDRON, (3, 2), "CCLE", [], [3, 2, 1, 0])
        self.hold(shapes.spindle(4), (0, 2), "CCCLCLLE", [], [0, 2, 3, 4, 5, 1])

    def test_one_rim(self):
        self.hold([(7, 2, 4)], (2, 4), "CCLE", [3], [2, 4, 7, None])
        self.hold([(7, 2, 4)], (7, 2), "CCLE", [3], [7, 2, 4, None])
        self.hold(shapes.wheel(3), (0, 1), "CCLCLE", [4], [0, 1, 2, 3, None])

    def test_a_cap_amid_the_corners(self):
        self.hold(shapes.fan(3), (1, 2), "CCLCLCLE", [3], [1, 2, 0, None, 3, 4])
        self.hold(shapes.fan(2), (2, 0), "CCCLRE", [3], [2, 0, 1, None, 3])

    def test_a_parting(self):
        self.hold(shapes.STRIP, (2, 3), "CCCCLS0.3EE", [3], [2, 3, 4, None, 0, 1])
        self.hold(shapes.fan(5), (2, 0), "CCCLCCCS0.5RREE", [3], [2, 0, 1, None, 3, 4, 5, 6])

    def test_a_join(self):
        self.hold(shapes.torus(), (0, 1), "CCCCCLS0.3S1.3LRS0.3ELE", [], [0, 1, 3, 2, 6, 4, 5])

    def test_the_piece_of_the_side_alone(self):
        triples = shapes.TETRAHEDRON + [(10, 12, 11)]
        self.hold(triples, (0, 1), "CCLE", [], [0, 1, 2, 3])
        self.hold(triples, (11, 10), "CCLE", [3], [11, 10, 12, None])

    def test_corners_of_sixty_figures(self):
        self.hold([(BIG, 0, BIG - 1)], (0, BIG - 1), "CCLE", [3], [0, BIG - 1, BIG, None])


class HeldTest(unittest.TestCase):
    """Held against the slow reading of the document, and against what it promises of a word."""

    def hold_slow(self, triples, skin, side):
        self.assertEqual(wound_off(skin, side), slowly.wound_off(triples, side), side)

    def hold_promises(self, triples, skin, side):
        word, caps, corners = wound_off(skin, side)
        front = front_of(word)
        self.assertIsNone(front.gate())
        self.assertIsNotNone(front_of(word[:-1]).gate())
        piece = [each for each in pieces(skin) if side[0] in each][0]
        self.assertEqual(corners[:2], list(side))
        self.assertEqual(sorted(corner for corner in corners if corner is not None), piece)
        self.assertEqual([at for at, corner in enumerate(corners) if corner is None], caps)
        self.hold_triples(triples, skin, piece, front.triples(), corners)
        of_piece = [triple for triple in triples if triple[0] in piece]
        joins = [letter for letter in word if letter[0] == "S" and letter[1] > 0]
        self.assertEqual(len(joins), counted(Skin(of_piece))[4])
        self.assertEqual(word.count(("C",)), len(corners) - 2)

    def hold_triples(self, triples, skin, piece, made, corners):
        """The triangles of the piece, each once, and for each cap those that close one rim, each rim once."""
        named = [tuple(corners[number] for number in triple) for triple in made]
        whole = [triple for triple in named if None not in triple]
        self.assertEqual(shapes.slow_triangles(whole), shapes.slow_triangles([t for t in triples if t[0] in piece]))
        closing = {}
        for triple in made:
            for by in range(3):
                q, p, h = shapes.turned(triple, by)
                if corners[h] is None:
                    closing.setdefault(h, []).append((corners[p], corners[q]))
        rim_sides = [sorted(zip(rim, rim[1:] + rim[:1])) for rim in rims(skin) if rim[0] in piece]
        self.assertEqual(sorted(sorted(sides) for sides in closing.values()), sorted(rim_sides))

    def test_every_side_of_many_skins(self):
        for name, triples in shapes.skins():
            with self.subTest(name=name):
                skin = Skin(triples)
                for side in slowly.chosen_sides(triples, 160 if len(triples) < 90 else 12):
                    self.hold_promises(triples, skin, side)
                for side in slowly.chosen_sides(triples, 45 if len(triples) < 90 else 2):
                    self.hold_slow(triples, skin, side)
                self.assertEqual(skin.triangles(), shapes.slow_triangles(triples))

    def test_parts_of_closed_skins(self):
        for seed in range(40):
            for whole in (shapes.rings(1), shapes.rings(2), shapes.spindle(9)):
                triples = shapes.part_of(whole, seed)
                skin = Skin(triples)
                for side in slowly.chosen_sides(triples, 8):
                    self.hold_promises(triples, skin, side)
                    self.hold_slow(triples, skin, side)

    def test_skins_of_chosen_words(self):
        joins = 0
        for seed in range(40):
            triples = slowly.chosen_closed(seed, 36)
            joins += counted(Skin(triples))[4]
            skin = Skin(triples)
            for side in slowly.chosen_sides(triples, 6):
                self.hold_promises(triples, skin, side)
                self.hold_slow(triples, skin, side)
            open_triples = shapes.part_of(triples, seed)
            for side in slowly.chosen_sides(open_triples, 4):
                self.hold_promises(open_triples, Skin(open_triples), side)
                self.hold_slow(open_triples, Skin(open_triples), side)
        self.assertGreater(joins, 40)

    def test_three_to_two_hundred_about_one_corner(self):
        for many in (3, 4, 50, 199, 200):
            for triples in (shapes.fan(many), shapes.wheel(many)):
                for side in ((0, 1), (1, 2), (2, 0), (0, 2)):
                    self.hold_promises(triples, Skin(triples), side)

    def test_seven_corners_from_every_side(self):
        skin = Skin(shapes.torus())
        for side in shapes.all_sides(shapes.torus()):
            word, caps, corners = wound_off(skin, side)
            self.assertEqual((len(word), caps, sorted(corners)), (14, [], list(range(7))))

    def test_kinds_of_what_is_told(self):
        for triples in (shapes.torus()[1:], shapes.STRIP, shapes.rings(2)):
            told = wound_off(Skin(triples), triples[0][:2])
            self.assertIs(type(told), tuple)
            self.assertEqual([type(each) for each in told], [list] * 3)
            self.assertEqual({type(letter) for letter in told[0]}, {tuple})
            numbers = [number for letter in told[0] for number in letter[1:]] + told[1]
            self.assertLessEqual({type(number) for number in numbers}, {int})
            self.assertEqual({type(corner) for corner in told[2] if corner is not None}, {int})


    def test_whole_numbers_of_a_class_of_their_own(self):
        class Named(int):
            def __repr__(self):
                return "named"

        told = wound_off(Skin([(7, 2, 4)]), (Named(2), Named(4)))
        self.assertEqual(repr(told[2]), "[2, 4, 7, None]")


class KeptApartTest(unittest.TestCase):

    def test_told_lists_are_the_askers(self):
        skin = Skin(shapes.torus()[1:])
        before = wound_off(skin, (1, 2))
        for each in wound_off(skin, (1, 2)):
            each.clear()
        for each in wound_off(skin, (1, 2)):
            each[0] = None
        self.assertEqual(wound_off(skin, (1, 2)), before)
        self.assertEqual(skin.triangles(), shapes.slow_triangles(shapes.torus()[1:]))

    def test_caps_are_not_kept_in_the_skin(self):
        skin = Skin(shapes.STRIP)
        wound_off(skin, (2, 3))
        self.assertIsNone(skin.third(1, 0))
        self.assertEqual(skin.corners(), [0, 1, 2, 3, 4])
        self.assertEqual(rims(skin), [[0, 1, 3, 4, 2]])


class RefusedTest(unittest.TestCase):

    def test_pairs_that_are_no_sides(self):
        skin = Skin(shapes.STRIP)
        for side in ((1, 0), (0, 2), (0, 3), (0, 0), (4, 3), (0, 9), (9, 0), (-1, 0), (0, -1), (-1, -2), (BIG, 0)):
            with self.assertRaises(NoSide):
                wound_off(skin, side)

    def test_what_is_no_side_of_anything(self):
        wrong = [[0, 1], (0, 1, 2), (0,), (), ((0, 1),), True, "01", {0: 1}, {0, 1}, range(2), (False, True),
                 (False, 1), (0, True), (True, 2), (0.0, 1), (0, 1.0), ("0", "1"), (None, 1), (0, None), ([0], 1),
                 (things.Strange(), 1), (0, things.Strange()), (10 ** 5000, 1)]
        for triples in ([(0, 1, 2)], shapes.TETRAHEDRON, shapes.torus(), []):
            skin = Skin(triples)
            for thing in wrong + things.THINGS:
                with self.subTest(thing=object.__repr__(thing)):
                    with self.assertRaises(NoSide):
                        wound_off(skin, thing)
            self.assertEqual(skin.triangles(), shapes.slow_triangles(triples))

    def test_the_empty_skin_has_no_side(self):
        with self.assertRaises(NoSide):
            wound_off(Skin([]), (0, 1))


if __name__ == "__main__":
    unittest.main()
