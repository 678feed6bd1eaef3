"""Point 19: the stretch of a word that is mended behind a deed."""

import unittest

import shapes
import slowdeeds
import slowly
import things
from shapestring.changes import changed
from shapestring.errors import Gone, NoDeed, NoSide, ShapeError, Spoilt, Taken
from shapestring.mending import mended
from shapestring.skins import Skin
from shapestring.stretches import with_stretch
from shapestring.winding import wound_off
from shapestring.wordtexts import read_word

NAMES = ("turn", "in", "on", "out", "close", "draw")


def told_of(skin, side, deed):
    """What point 19 tells, in the form of the slow reading."""
    try:
        return mended(skin, side, deed)
    except Spoilt as e:
        return ("Spoilt", e.kind)
    except ShapeError as e:
        return (type(e).__name__,)


def sleeves():
    """A ring, a sleeve and a strip, in one skin."""
    return shapes.torus() + shapes.shifted(shapes.sleeve(4), 20) + shapes.shifted(shapes.STRIP, 40)


class ByHandTest(unittest.TestCase):

    def hold(self, triples, side, deed, stretch, caps):
        at, many, letters = stretch
        self.assertEqual(mended(Skin(triples), side, deed), ((at, many, read_word(letters)), caps))

    def test_in(self):
        # CCLE with the cap 3 becomes CCCLRE.
        self.hold([(7, 2, 4)], (2, 4), ("in", (2, 4), 9), (2, 1, "CLR"), [4])

    def test_turn(self):
        # CCLCLCLE becomes CCLCCLLE.
        self.hold(shapes.STRIP, (0, 1), ("turn", (2, 3)), (4, 2, "CL"), [3])

    def test_on(self):
        # CCLE becomes CCLCLE, with the same cap.
        self.hold([(7, 2, 4)], (2, 4), ("on", (4, 7), 9), (3, 0, "CL"), [3])

    def test_draw(self):
        # CCCLCLLE becomes CCLCLE.
        self.hold(shapes.wheel(4), (0, 1), ("draw", (3, 4)), (2, 4, "LC"), [4])

    def test_close(self):
        self.hold([(7, 2, 4)], (2, 4), ("close", (2, 4), 9), (4, 0, ""), [])

    def test_out(self):
        # CCLE becomes CCLCLE: in place of the last triangle there are three of a cap.
        self.hold(shapes.TETRAHEDRON, (0, 1), ("out", (1, 3)), (3, 0, "CL"), [4])

    def test_another_piece(self):
        triples = [(7, 2, 4)] + shapes.shifted(shapes.TETRAHEDRON, 20)
        self.hold(triples, (2, 4), ("in", (20, 21), 9), (4, 0, ""), [3])
        self.hold(triples, (2, 4), ("out", (20, 21)), (4, 0, ""), [3])
        self.hold(triples, (20, 21), ("out", (2, 4)), (4, 0, ""), [])


class HeldTest(unittest.TestCase):

    def hold(self, triples, skin, side, deed):
        asked = slowdeeds.mended(triples, side, deed)
        told = told_of(skin, side, deed)
        self.assertEqual(told, asked, (side, deed))
        if isinstance(asked[0], tuple):
            anew = wound_off(changed(skin, deed), side)
            self.assertEqual(with_stretch(wound_off(skin, side)[0], told[0]), anew[0])
            self.assertEqual(told[1], anew[1])
            self.assertEqual([type(each) for each in told], [tuple, list])
            return "told"
        return asked[0]

    def hold_all(self, triples, begins, sides, found):
        skin = Skin(triples)
        fresh = slowdeeds.fresh_of(triples)
        for begin in begins:
            for deed in slowdeeds.all_deeds(triples, sides, fresh):
                seen = (deed[0], self.hold(triples, skin, begin, deed))
                found[seen] = found.get(seen, 0) + 1
        self.assertEqual(skin.triangles(), shapes.slow_triangles(triples))

    def test_each_deed_near_and_far(self):
        found = {}
        for name, triples in shapes.skins():
            if 0 < len(triples) < 30:
                with self.subTest(name=name):
                    begins = slowly.chosen_sides(triples, 2)
                    self.hold_all(triples, begins, begins + slowly.chosen_sides(triples, 7), found)
        for seed in range(12):
            whole = slowly.chosen_closed(seed, 20)
            for triples in (whole, shapes.part_of(whole, seed)):
                begins = slowly.chosen_sides(triples, 1)
                self.hold_all(triples, begins, begins + slowly.chosen_sides(triples, 4), found)
        for name in NAMES:
            self.assertGreater(found.get((name, "told"), 0), 20, name)
        for name in ("turn", "out", "draw"):
            self.assertGreater(found.get((name, "Gone"), 0), 3, name)

    def test_in_the_same_piece_and_in_another(self):
        triples = sleeves()
        self.hold_all(triples, [(0, 1), (20, 21), (40, 41)], [(0, 1), (3, 0), (20, 21), (25, 24), (42, 43)], {})

    def test_skins_of_two_hundred(self):
        skin = Skin(shapes.spindle(100))
        told = mended(skin, (2, 3), ("turn", (50, 0)))
        anew = wound_off(changed(skin, ("turn", (50, 0))), (2, 3))
        self.assertEqual((with_stretch(wound_off(skin, (2, 3))[0], told[0]), told[1]), anew[:2])


class RefusedTest(unittest.TestCase):

    def refused(self, triples, side, deed, error):
        skin = Skin(triples)
        with self.assertRaises(error):
            mended(skin, side, deed)
        self.assertEqual(skin.triangles(), shapes.slow_triangles(triples))

    def test_no_side_of_anything_ahead_of_all(self):
        wrong = [(1, 0), (0, 3), (0, 0), (0, 9), (9, 0), [0, 1], (0, 1, 2), (False, True), (0, True), "01", ((0, 1),)]
        for side in wrong + things.THINGS:
            with self.subTest(side=object.__repr__(side)):
                for deed in (("out", (0, 1)), ("in", (0, 3), 9), ("in", (0, 1), 1), None, ("turned", (0, 1))):
                    self.refused(shapes.STRIP, side, deed, NoSide)
        self.refused([], (0, 1), None, NoSide)
        self.refused(shapes.TETRAHEDRON, (0, 4), ("turn", (0, 1)), NoSide)

    def test_no_deed(self):
        for deed in things.THINGS + [("turned", (0, 1)), ("in", (0, 1)), ["out", (0, 1)], ("out", [0, 1]),
                                     ("in", (0, 1), True), ("in", (0, 3), -1), ("out", (0, 1, 2))]:
            self.refused(shapes.STRIP, (0, 1), deed, NoDeed)

    def test_no_side_of_the_deed(self):
        self.refused(shapes.STRIP, (0, 1), ("out", (1, 0)), NoSide)
        self.refused(shapes.STRIP, (0, 1), ("turn", (0, 1)), NoSide)
        self.refused(shapes.STRIP, (0, 1), ("on", (1, 2), 0), NoSide)
        self.refused(shapes.STRIP, (0, 1), ("close", (2, 1), 0), NoSide)

    def test_taken(self):
        for name in ("in", "on", "close"):
            self.refused(shapes.STRIP, (0, 1), (name, (0, 1), 4), Taken)
            self.refused(shapes.fan(200), (0, 1), (name, (0, 1), 4), Taken)

    def spoilt(self, triples, side, deed, kind):
        with self.assertRaises(Spoilt) as caught:
            mended(Skin(triples), side, deed)
        self.assertEqual(caught.exception.kind, kind)

    def test_spoilt_by_its_kind(self):
        self.spoilt(shapes.fan(200), (0, 1), ("on", (0, 1), 999), "many")
        self.spoilt([(0, 1, 2), (0, 2, 1)], (0, 1), ("turn", (1, 2)), "triple")
        self.spoilt(shapes.TETRAHEDRON, (0, 1), ("turn", (1, 2)), "side")
        self.spoilt(shapes.fan(3), (0, 1), ("out", (0, 2)), "round")

    def test_spoilt_goes_ahead_of_gone(self):
        # The side would be gone with its triangle, but what is left is no skin.
        self.spoilt(shapes.fan(3), (0, 2), ("out", (0, 2)), "round")
        self.spoilt(shapes.TETRAHEDRON, (1, 2), ("turn", (1, 2)), "side")
        self.spoilt([(0, 1, 2), (0, 2, 1)], (1, 2), ("turn", (1, 2)), "triple")

    def test_gone(self):
        self.refused(shapes.STRIP, (0, 1), ("out", (0, 1)), Gone)
        self.refused(shapes.STRIP, (0, 1), ("out", (1, 2)), Gone)
        self.refused(shapes.STRIP, (1, 2), ("turn", (1, 2)), Gone)
        self.refused(shapes.STRIP, (1, 2), ("turn", (2, 1)), Gone)
        self.refused(shapes.STRIP, (0, 1), ("draw", (0, 1)), Gone)
        self.refused(shapes.STRIP, (3, 4), ("draw", (2, 3)), Gone)
        self.refused([(7, 2, 4)], (2, 4), ("out", (4, 7)), Gone)

    def test_a_side_that_another_triangle_has_behind_it_is_not_gone(self):
        # Triangle (0, 1, 2) goes, and with 3 called 1 another one has the side (0, 1).
        skin = Skin(shapes.wheel(4))
        told = mended(skin, (0, 1), ("draw", (1, 2)))
        self.assertEqual(told[1], wound_off(changed(skin, ("draw", (1, 2))), (0, 1))[1])
        self.assertEqual(changed(skin, ("draw", (1, 2))).third(0, 1), 3)


class KeptApartTest(unittest.TestCase):

    def test_told_lists_are_the_askers(self):
        skin = Skin(shapes.sleeve(4))
        deed = ("in", (0, 1), 20)
        before = mended(skin, (0, 1), deed)
        told = mended(skin, (0, 1), deed)
        told[0][2].clear()
        told[1].clear()
        mended(skin, (0, 1), deed)[0][2].append(None)
        self.assertNotEqual(before[1], [])
        self.assertNotEqual(before[0][2], [])
        self.assertEqual(mended(skin, (0, 1), deed), before)
        self.assertEqual(skin.triangles(), shapes.slow_triangles(shapes.sleeve(4)))


if __name__ == "__main__":
    unittest.main()
