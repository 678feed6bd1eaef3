"""Point 8: rims."""

import unittest

import shapes
from shapestring.rims import rims
from shapestring.skins import Skin


class RimsTest(unittest.TestCase):

    def hold_rims(self, triples):
        """What point 8 says, word for word."""
        told = rims(Skin(triples))
        sides = set(shapes.all_sides(triples))
        at_rim = sorted((a, b) for a, b in sides if (b, a) not in sides)
        walked = [pair for rim in told for pair in zip(rim, rim[1:] + rim[:1])]
        self.assertEqual(sorted(walked), at_rim)
        self.assertIs(type(told), list)
        self.assertEqual(told, sorted(told))
        for rim in told:
            self.assertIs(type(rim), list)
            self.assertEqual(rim[0], min(rim))
            self.assertEqual(len(set(rim)), len(rim))
            self.assertGreaterEqual(len(rim), 3)

    def test_many_skins(self):
        for name, triples in shapes.skins():
            for each in (triples, shapes.mirrored(triples), triples[::-1]):
                with self.subTest(name=name):
                    self.hold_rims(each)

    def test_parts_of_closed_skins(self):
        for seed in range(100):
            for whole in (shapes.rings(2), shapes.spindle(9), shapes.put_in(shapes.rings(1), 3)):
                self.hold_rims(shapes.part_of(whole, seed))

    def test_none(self):
        for triples in ([], shapes.TETRAHEDRON, shapes.torus(), shapes.spindle(100), [(0, 1, 2), (0, 2, 1)]):
            self.assertEqual(rims(Skin(triples)), [])

    def test_one(self):
        self.assertEqual(rims(Skin([(7, 2, 4)])), [[2, 4, 7]])
        self.assertEqual(rims(Skin([(2, 7, 4)])), [[2, 7, 4]])
        self.assertEqual(rims(Skin(shapes.STRIP)), [[0, 1, 3, 4, 2]])
        self.assertEqual(rims(Skin(shapes.wheel(200))), [list(range(1, 201))])

    def test_several(self):
        self.assertEqual(rims(Skin(shapes.sleeve(4))), [[0, 1, 2, 3], [4, 7, 6, 5]])
        self.assertEqual(rims(Skin([(9, 10, 11), (8, 5, 7), (100, 6, 20)])), [[5, 7, 8], [6, 20, 100], [9, 10, 11]])
        self.assertEqual(len(rims(Skin(shapes.apart(200)))), 200)

    def test_corners_of_sixty_figures(self):
        big = shapes.BIG
        self.assertEqual(rims(Skin([(big, 3, big - 1)])), [[3, big - 1, big]])

    def test_told_lists_and_those_within_are_the_askers(self):
        skin = Skin(shapes.sleeve(4))
        rims(skin).clear()
        rims(skin)[0].clear()
        rims(skin)[1].append(99)
        self.assertEqual(rims(skin), [[0, 1, 2, 3], [4, 7, 6, 5]])
        self.assertEqual(skin.triangles(), shapes.slow_triangles(shapes.sleeve(4)))


if __name__ == "__main__":
    unittest.main()
