"""Point 7: rim sides, and the rounds of corners."""

import unittest

import shapes
import things
from shapestring.errors import NoCorner, NoSide
from shapestring.rounds import is_rim_side, round_of
from shapestring.skins import Skin

BIG = shapes.BIG


class RoundTest(unittest.TestCase):

    def hold_round(self, triples, skin, corner):
        """What point 7 says, word for word."""
        told = round_of(skin, corner)
        about = {shapes.begun_at(triple, corner) for triple in triples if corner in triple}
        sides = shapes.all_sides(list(about))
        at_rim = any(corner in (a, b) and (b, a) not in sides for a, b in sides)
        onward = told[1:] if at_rim else told[1:] + told[:1]
        self.assertIs(type(told), list)
        self.assertEqual(len(set(told)), len(told))
        self.assertEqual({(corner, p, q) for p, q in zip(told, onward)}, about)
        self.assertEqual(len(told), len(about) + 1 if at_rim else len(about))
        if not at_rim:
            self.assertEqual(told[0], min(told))

    def test_every_corner_of_many_skins(self):
        for name, triples in shapes.skins():
            skin = Skin(triples)
            for corner in skin.corners():
                with self.subTest(name=name, corner=corner):
                    self.hold_round(triples, skin, corner)

    def test_parts_of_closed_skins(self):
        for seed in range(60):
            for whole in (shapes.rings(2), shapes.spindle(9)):
                triples = shapes.part_of(whole, seed)
                skin = Skin(triples)
                for corner in skin.corners():
                    self.hold_round(triples, skin, corner)

    def test_amid_a_round_it_is_begun_at_the_least(self):
        self.assertEqual(round_of(Skin(shapes.TETRAHEDRON), 0), [1, 2, 3])
        self.assertEqual(round_of(Skin(shapes.TETRAHEDRON), 1), [0, 3, 2])
        self.assertEqual(round_of(Skin([(5, 9, 7), (5, 7, 8), (5, 8, 9)]), 5), [7, 8, 9])
        self.assertEqual(round_of(Skin(shapes.torus()), 0), [1, 3, 2, 6, 4, 5])

    def test_a_corner_of_two_triangles_both_ways_round(self):
        skin = Skin([(0, 1, 2), (0, 2, 1)])
        self.assertEqual([round_of(skin, c) for c in (0, 1, 2)], [[1, 2], [0, 2], [0, 1]])

    def test_at_a_rim_it_goes_from_first_to_last(self):
        self.assertEqual(round_of(Skin([(7, 2, 4)]), 7), [2, 4])
        self.assertEqual(round_of(Skin([(7, 2, 4)]), 2), [4, 7])
        self.assertEqual(round_of(Skin([(0, 2, 1), (0, 3, 2)]), 0), [3, 2, 1])
        self.assertEqual(round_of(Skin([(0, 5, 1), (0, 9, 5), (0, 1, 4)]), 0), [9, 5, 1, 4])

    def test_three_to_two_hundred_about_one_corner(self):
        for many in (1, 2, 3, 4, 17, 199, 200):
            self.assertEqual(round_of(Skin(shapes.fan(many)), 0), list(range(1, many + 2)))
        for many in (3, 4, 17, 199, 200):
            self.assertEqual(round_of(Skin(shapes.wheel(many)), 0), list(range(1, many + 1)))
            self.assertEqual(round_of(Skin(shapes.mirrored(shapes.wheel(many))), 0), [1] + list(range(many, 1, -1)))

    def test_corners_of_sixty_figures(self):
        skin = Skin([(BIG, BIG - 1, BIG - 2), (BIG, BIG - 2, 0)])
        self.assertEqual(round_of(skin, BIG), [BIG - 1, BIG - 2, 0])

    def test_told_lists_are_the_askers(self):
        skin = Skin(shapes.torus())
        round_of(skin, 0).clear()
        round_of(skin, 0)[0] = 99
        self.assertEqual(round_of(skin, 0), [1, 3, 2, 6, 4, 5])
        self.assertEqual(skin.triangles(), shapes.slow_triangles(shapes.torus()))

    def test_what_is_no_corner(self):
        for name, triples in shapes.skins():
            skin = Skin(triples)
            for thing in things.THINGS + [max(skin.corners(), default=0) + 1, 10 ** 59, "1", (0, 1), [1], 10 ** 5000]:
                with self.subTest(name=name, thing=object.__repr__(thing)):
                    with self.assertRaises(NoCorner):
                        round_of(skin, thing)

    def test_corners_that_stand_nowhere(self):
        skin = Skin([(2, 4, 7)])
        for corner in (0, 1, 3, 5, 6, 8, -2, -4, -7):
            with self.assertRaises(NoCorner):
                round_of(skin, corner)
        with self.assertRaises(NoCorner):
            round_of(Skin([]), 0)

    def test_numbers_with_points_are_no_corners(self):
        for corner in (0.0, 1.0, 2.0, 1 + 0j):
            with self.assertRaises(NoCorner):
                round_of(Skin(shapes.TETRAHEDRON), corner)


class RimSideTest(unittest.TestCase):

    def test_every_side_of_many_skins(self):
        for name, triples in shapes.skins():
            skin = Skin(triples)
            sides = set(shapes.all_sides(triples))
            for a, b in sides:
                with self.subTest(name=name, side=(a, b)):
                    self.assertIs(is_rim_side(skin, (a, b)), (b, a) not in sides)

    def test_a_side_turned_about_that_the_skin_has_not(self):
        for name, triples in shapes.skins():
            skin = Skin(triples)
            for a, b in shapes.all_sides(triples):
                if is_rim_side(skin, (a, b)):
                    with self.assertRaises(NoSide):
                        is_rim_side(skin, (b, a))

    def test_some_by_hand(self):
        skin = Skin([(0, 1, 2), (0, 2, 3)])
        self.assertIs(is_rim_side(skin, (0, 1)), True)
        self.assertIs(is_rim_side(skin, (2, 0)), False)
        self.assertIs(is_rim_side(skin, (0, 2)), False)
        self.assertIs(is_rim_side(skin, (3, 0)), True)

    def test_pairs_that_are_no_sides(self):
        skin = Skin([(0, 1, 2), (0, 2, 3)])
        for side in ((1, 0), (2, 1), (1, 3), (3, 1), (0, 0), (1, 1), (0, 9), (9, 0), (-1, 0), (0, -1), (BIG, 0)):
            with self.assertRaises(NoSide):
                is_rim_side(skin, side)

    def test_what_is_no_side_of_anything(self):
        wrong = [[0, 1], [1, 2], (0, 1, 2), (0,), (), ((0, 1),), (0, 1, 2, 3), True, "01", {0: 1}, {0, 1}, range(2),
                 (True, 2), (0, True), (False, True), (False, 1), (2, False), (0.0, 1), (0, 1.0), ("0", "1"),
                 (0, "1"), (None, 1), (0, None), (None, None), ([0], 1), (0, [1]), ((0,), (1,)), (0, {}),
                 (things.Strange(), 1), (0, things.Strange()), (10 ** 5000, 1), (0, 10 ** 5000)]
        for skin in (Skin([(0, 1, 2)]), Skin(shapes.TETRAHEDRON), Skin(shapes.torus()), Skin([])):
            for thing in wrong + things.THINGS:
                with self.subTest(thing=object.__repr__(thing)):
                    with self.assertRaises(NoSide):
                        is_rim_side(skin, thing)

    def test_no_corner_and_no_side_are_told_apart(self):
        with self.assertRaises(NoCorner):
            round_of(Skin(shapes.TETRAHEDRON), (0, 1))
        with self.assertRaises(NoSide):
            is_rim_side(Skin(shapes.TETRAHEDRON), 0)

    def test_the_skin_stays(self):
        skin = Skin(shapes.STRIP)
        is_rim_side(skin, (0, 1))
        with self.assertRaises(NoSide):
            is_rim_side(skin, (1, 0))
        self.assertEqual(skin.triangles(), shapes.slow_triangles(shapes.STRIP))
        self.assertIsNone(skin.third(1, 0))


if __name__ == "__main__":
    unittest.main()
