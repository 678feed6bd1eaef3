"""Point 20: the least word and caps of a piece, and how many ways it is alike itself."""

import random
import unittest

import shapes
import slowdeeds
import slowly
import things
from shapestring.errors import NoCorner
from shapestring.least import least, likenesses
from shapestring.skins import Skin
from shapestring.winding import wound_off
from shapestring.wordtexts import read_word


def middling():
    """Shapes that the slow readings bear, with names."""
    return [(name, triples) for name, triples in shapes.skins() if 0 < len(triples) < 30]


def mixed(triples, seed):
    """The same triangles in another order, each begun at another corner."""
    chance = random.Random(seed)
    told = [shapes.turned(triple, chance.randrange(3)) for triple in triples]
    chance.shuffle(told)
    return told


class ByHandTest(unittest.TestCase):

    def hold(self, triples, corner, text, caps, many):
        word, told, corners = least(Skin(triples), corner)
        self.assertEqual((word, told), (read_word(text), caps))
        self.assertEqual(likenesses(Skin(triples), corner), many)

    def test_as_many_ways_as_there_are_sides(self):
        self.hold([(7, 2, 4)], 4, "CCLE", [3], 3)
        self.hold([(0, 1, 2), (0, 2, 1)], 1, "CE", [], 6)
        self.hold(shapes.TETRAHEDRON, 3, "CCLE", [], 12)
        self.hold(shapes.spindle(4), 1, "CCCLCLLE", [], 24)
        self.assertEqual(likenesses(Skin(shapes.torus()), 5), 42)

    def test_several_ways(self):
        self.assertEqual(likenesses(Skin(shapes.wheel(7)), 0), 7)
        self.assertEqual(likenesses(Skin(shapes.spindle(5)), 0), 10)
        self.assertEqual(likenesses(Skin(shapes.fan(2)), 0), 2)
        self.assertEqual(likenesses(Skin(shapes.fan(4)), 0), 1)
        self.assertEqual(likenesses(Skin(shapes.sleeve(5)), 0), 10)

    def test_one_way(self):
        self.assertEqual(likenesses(Skin(shapes.STRIP), 0), 1)
        self.assertEqual(likenesses(Skin(shapes.put_in(shapes.fan(2), 0)), 0), 1)

    def test_the_least_as_python_sorts(self):
        # C goes ahead of E, E of L, L of R, R of S.
        self.hold(shapes.fan(2), 0, "CCCLLE", [4], 2)
        self.hold(shapes.STRIP, 4, "CCCCLLLE", [5], 1)

    def test_caps_are_looked_at_behind_the_word(self):
        # A tetrahedron with a triangle out, and a triangle with a corner put in: the same word, other caps.
        triples = shapes.TETRAHEDRON[1:]
        every = [wound_off(Skin(triples), side)[:2] for side in shapes.all_sides(triples)]
        self.assertEqual(least(Skin(triples), 0)[:2], min(every))
        self.assertGreater(len({str(caps) for word, caps in every}), 1)


class HeldTest(unittest.TestCase):

    def hold(self, triples):
        skin = Skin(triples)
        for piece in shapes.slow_pieces(triples):
            own = slowdeeds.piece_triples(triples, piece[0])
            every = {side: slowly.wound_off(triples, side) for side in shapes.all_sides(own)}
            asked = min(told[:2] for told in every.values())
            many = sum(told[:2] == asked for told in every.values())
            self.assertEqual(many, slowdeeds.ways(own, own))
            for corner in piece:
                told = least(skin, corner)
                self.assertEqual(told[:2], asked)
                self.assertEqual(told, every[tuple(told[2][:2])])
                self.assertEqual(likenesses(skin, corner), many)
        self.assertEqual(skin.triangles(), shapes.slow_triangles(triples))

    def test_many_skins(self):
        for name, triples in middling():
            with self.subTest(name=name):
                self.hold(triples)

    def test_pieces_with_rims_and_with_handles(self):
        self.hold(shapes.torus()[1:] + shapes.shifted(shapes.pierced(shapes.TETRAHEDRON, 1), 30))
        self.hold(shapes.rings(2)[2:])

    def test_chosen_skins(self):
        for seed in range(10):
            whole = slowly.chosen_closed(seed, 16)
            if len(whole) < 40:
                self.hold(shapes.part_of(whole, seed))
            self.hold(shapes.part_of(shapes.spindle(6) + shapes.shifted(shapes.wheel(5), 50), seed))

    def test_two_hundred_triangles(self):
        skin = Skin(shapes.wheel(200))
        self.assertEqual(likenesses(skin, 77), 200)
        self.assertEqual(least(skin, 0)[:2], min(wound_off(skin, side)[:2] for side in ((0, 1), (1, 0), (1, 2))
                                                 if skin.third(*side) is not None))

    def test_the_triples_in_another_order(self):
        for name, triples in middling():
            for seed in range(3):
                skin, other = Skin(triples), Skin(mixed(triples, seed))
                corner = skin.corners()[seed]
                self.assertEqual(least(other, corner), least(skin, corner))
                self.assertEqual(likenesses(other, corner), likenesses(skin, corner))

    def test_kinds_of_what_is_told(self):
        told = least(Skin(shapes.STRIP), 0)
        self.assertIs(type(told), tuple)
        self.assertEqual([type(each) for each in told], [list] * 3)
        self.assertIs(type(likenesses(Skin(shapes.STRIP), 0)), int)


class KeptApartTest(unittest.TestCase):

    def test_told_lists_are_the_askers(self):
        skin = Skin(shapes.torus()[1:])
        before = least(skin, 1)
        for each in least(skin, 1):
            each.clear()
        for each in least(skin, 2):
            each[0] = None
        self.assertEqual(least(skin, 1), before)
        self.assertEqual(skin.triangles(), shapes.slow_triangles(shapes.torus()[1:]))
        self.assertEqual(skin.corners(), list(range(7)))


class RefusedTest(unittest.TestCase):

    def test_what_is_no_corner_of_the_skin(self):
        wrong = [(0,), (0, 1), [0], "0", 0.0, True, False, -1, 9, 100, shapes.BIG, 10 ** 5000, {0: 0}, b"0"]
        for triples in (shapes.STRIP, shapes.TETRAHEDRON, shapes.STRIP + [(20, 21, 22)], []):
            skin = Skin(triples)
            for thing in wrong + things.THINGS:
                with self.subTest(thing=object.__repr__(thing)):
                    with self.assertRaises(NoCorner):
                        least(skin, thing)
                    with self.assertRaises(NoCorner):
                        likenesses(skin, thing)

    def test_the_empty_skin_has_no_corner(self):
        for told_by in (least, likenesses):
            with self.assertRaises(NoCorner):
                told_by(Skin([]), 0)


if __name__ == "__main__":
    unittest.main()
