"""Point 9: pieces, and the numbers of a skin."""

import unittest

import shapes
from shapestring.pieces import counted, pieces
from shapestring.skins import Skin


def numbers(triples):
    return counted(Skin(triples))


class PiecesTest(unittest.TestCase):

    def test_many_skins(self):
        for name, triples in shapes.skins():
            for each in (triples, triples[::-1]):
                with self.subTest(name=name):
                    told = pieces(Skin(each))
                    self.assertEqual(told, shapes.slow_pieces(triples))
                    self.assertEqual({type(piece) for piece in [told] + told}, {list})

    def test_parts_of_closed_skins(self):
        seen = set()
        for seed in range(150):
            whole = shapes.spindle(12) + shapes.shifted(shapes.torus(), 50)
            triples = shapes.part_of(whole, seed)
            told = pieces(Skin(triples))
            self.assertEqual(told, shapes.slow_pieces(triples))
            seen.add(len(told))
        self.assertGreater(len(seen), 1)

    def test_by_hand(self):
        self.assertEqual(pieces(Skin([])), [])
        self.assertEqual(pieces(Skin([(7, 2, 4)])), [[2, 4, 7]])
        self.assertEqual(pieces(Skin([(10, 9, 1), (3, 2, 100)])), [[1, 9, 10], [2, 3, 100]])

    def test_told_lists_and_those_within_are_the_askers(self):
        skin = Skin([(10, 9, 1), (3, 2, 100)])
        pieces(skin).clear()
        pieces(skin)[0].clear()
        self.assertEqual(pieces(skin), [[1, 9, 10], [2, 3, 100]])
        self.assertEqual(skin.corners(), [1, 2, 3, 9, 10, 100])


class CountedTest(unittest.TestCase):

    def test_by_hand(self):
        asked = [
            ([], (0, 0, 0, 0, 0, 0)),
            ([(7, 2, 4)], (3, 3, 1, 1, 0, 1)),
            ([(0, 1, 2), (0, 2, 1)], (3, 3, 2, 1, 0, 0)),
            (shapes.TETRAHEDRON, (4, 6, 4, 1, 0, 0)),
            (shapes.STRIP, (5, 7, 3, 1, 0, 1)),
            (shapes.spindle(100), (102, 300, 200, 1, 0, 0)),
            (shapes.sleeve(8), (16, 32, 16, 1, 0, 2)),
            (shapes.apart(200), (600, 600, 200, 200, 0, 200)),
            (shapes.torus(), (7, 21, 14, 1, 1, 0)),
            (shapes.torus()[1:], (7, 21, 13, 1, 1, 1)),
            (shapes.rings(2), (11, 39, 26, 1, 2, 0)),
            (shapes.rings(4), (19, 75, 50, 1, 4, 0)),
            (shapes.pierced(shapes.rings(3), 3), (24, 84, 53, 1, 3, 3)),
            (shapes.TETRAHEDRON + shapes.shifted(shapes.torus(), 9) + [(30, 31, 32)], (14, 30, 19, 3, 1, 1)),
        ]
        for triples, six in asked:
            self.assertEqual(numbers(triples), six)

    def test_kinds_of_what_is_told(self):
        for name, triples in shapes.skins():
            told = numbers(triples)
            self.assertIs(type(told), tuple)
            self.assertEqual([type(number) for number in told], [int] * 6)
            self.assertGreaterEqual(min(told), 0)

    def test_many_skins(self):
        for name, triples in shapes.skins():
            with self.subTest(name=name):
                corners, sides, triangles, parts, handles, edges = numbers(triples)
                self.assertEqual(corners, len(shapes.corners_of(triples)))
                self.assertEqual(sides, len({frozenset(side) for side in shapes.all_sides(triples)}))
                self.assertEqual(triangles, len(triples))
                self.assertEqual(parts, len(shapes.slow_pieces(triples)))
                self.assertEqual(edges, len(shapes.corners_of(shapes.closed(triples))) - corners)
                self.assertEqual(2 * handles, 2 * parts - edges - corners + sides - triangles)

    def test_a_corner_put_into_a_triangle(self):
        for name, triples in shapes.skins():
            if 0 < len(triples) <= 198:
                corners, sides, triangles, parts, handles, edges = numbers(triples)
                for at in (0, len(triples) // 2, len(triples) - 1):
                    self.assertEqual(numbers(shapes.put_in(triples, at)),
                                     (corners + 1, sides + 3, triangles + 2, parts, handles, edges))

    def test_all_rims_closed_by_new_corners(self):
        for name, triples in shapes.skins():
            if len(shapes.closed(triples)) <= 200:
                corners, sides, triangles, parts, handles, edges = numbers(triples)
                at_rim = len(shapes.closed(triples)) - len(triples)
                self.assertEqual(numbers(shapes.closed(triples)),
                                 (corners + edges, sides + at_rim, triangles + at_rim, parts, handles, 0))

    def test_turned_about(self):
        for name, triples in shapes.skins():
            self.assertEqual(numbers(shapes.mirrored(triples)), numbers(triples))

    def test_two_skins_side_by_side(self):
        for name, one in shapes.skins():
            for also, other in shapes.skins():
                if len(one) + len(other) <= 200:
                    by = max(shapes.corners_of(one), default=0) + 1
                    sums = tuple(a + b for a, b in zip(numbers(one), numbers(other)))
                    self.assertEqual(numbers(one + shapes.shifted(other, by)), sums)

    def test_asked_again_the_same(self):
        skin = Skin(shapes.rings(2))
        self.assertEqual(counted(skin), counted(skin))
        self.assertEqual(skin.triangles(), shapes.slow_triangles(shapes.rings(2)))


if __name__ == "__main__":
    unittest.main()
