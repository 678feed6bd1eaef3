"""Point 17: deeds, each of which turns a skin into another one."""

import itertools
import unittest

import shapes
import slowdeeds
import slowly
import things
from shapestring import errors
from shapestring.changes import changed
from shapestring.errors import NoDeed, NoSide, ShapeError, Spoilt, Taken
from shapestring.skins import Skin

BIG = shapes.BIG
NAMES = ("turn", "in", "on", "out", "close", "draw")


def told_of(skin, deed):
    """What point 17 tells of the deed, in the form of the slow reading."""
    try:
        told = changed(skin, deed)
    except Spoilt as e:
        return ("Spoilt", e.kind)
    except ShapeError as e:
        return (type(e).__name__,)
    return ("skin", told.triangles())


def small_skins():
    return [(name, triples) for name, triples in shapes.skins() if len(triples) < 60]


class ByHandTest(unittest.TestCase):

    def hold(self, triples, deed, asked):
        self.assertEqual(changed(Skin(triples), deed).triangles(), asked)

    def test_turn(self):
        self.hold([(0, 1, 2), (1, 0, 3)], ("turn", (0, 1)), [(0, 3, 2), (1, 2, 3)])
        self.hold([(0, 1, 2), (1, 0, 3)], ("turn", (1, 0)), [(0, 3, 2), (1, 2, 3)])
        self.hold(shapes.spindle(4), ("turn", (0, 2)),
                  [(0, 3, 4), (0, 4, 5), (0, 5, 3), (1, 2, 5), (1, 3, 2), (1, 4, 3), (1, 5, 4), (2, 3, 5)])

    def test_in(self):
        self.hold([(7, 2, 4)], ("in", (2, 4), 0), [(0, 2, 4), (0, 4, 7), (0, 7, 2)])
        self.hold(shapes.STRIP, ("in", (3, 2), 9), [(0, 1, 2), (1, 3, 9), (1, 9, 2), (2, 3, 4), (2, 9, 3)])

    def test_on(self):
        self.hold([(7, 2, 4)], ("on", (2, 4), 5), [(2, 4, 7), (2, 5, 4)])
        self.hold([(7, 2, 4)], ("on", (7, 2), BIG), [(2, 4, 7), (2, 7, BIG)])

    def test_out(self):
        self.hold(shapes.STRIP, ("out", (0, 1)), [(1, 3, 2), (2, 3, 4)])
        self.hold(shapes.TETRAHEDRON, ("out", (1, 3)), [(0, 1, 2), (0, 2, 3), (0, 3, 1)])
        self.hold([(7, 2, 4)], ("out", (4, 7)), [])

    def test_close(self):
        self.hold([(7, 2, 4)], ("close", (2, 4), 9), [(2, 4, 7), (2, 7, 9), (2, 9, 4), (4, 9, 7)])
        self.hold(shapes.STRIP, ("close", (3, 4), 5),
                  [(0, 1, 2), (0, 2, 5), (0, 5, 1), (1, 3, 2), (1, 5, 3), (2, 3, 4), (2, 4, 5), (3, 5, 4)])

    def test_close_the_rim_of_the_side_alone(self):
        triples = shapes.sleeve(3)
        one = changed(Skin(triples), ("close", (0, 1), 9)).triangles()
        other = changed(Skin(triples), ("close", (4, 3), 9)).triangles()
        self.assertEqual(sorted(set(one) - set(Skin(triples).triangles())), [(0, 2, 9), (0, 9, 1), (1, 9, 2)])
        self.assertEqual(sorted(set(other) - set(Skin(triples).triangles())), [(3, 4, 9), (3, 9, 5), (4, 5, 9)])

    def test_draw(self):
        self.hold(shapes.STRIP, ("draw", (2, 3)), [(0, 1, 2)])
        self.hold(shapes.STRIP, ("draw", (3, 2)), [(0, 1, 3)])
        self.hold(shapes.wheel(4), ("draw", (1, 0)), [(1, 2, 3), (1, 3, 4)])
        self.hold(shapes.wheel(4), ("draw", (1, 2)), [(0, 1, 3), (0, 3, 4), (0, 4, 1)])

    def test_draw_until_nothing_is_left(self):
        self.hold([(0, 1, 2), (0, 2, 1)], ("draw", (0, 1)), [])
        self.hold([(7, 2, 4)], ("draw", (7, 2)), [])
        self.hold(shapes.TETRAHEDRON, ("draw", (0, 1)), [(0, 2, 3), (0, 3, 2)])

    def test_a_skin_is_told(self):
        self.assertIsInstance(changed(Skin(shapes.STRIP), ("out", (0, 1))), Skin)

    def test_corners_of_sixty_figures(self):
        self.hold([(BIG, 0, BIG - 1)], ("in", (0, BIG - 1), BIG - 2),
                  [(0, BIG - 2, BIG), (0, BIG - 1, BIG - 2), (BIG - 2, BIG - 1, BIG)])

    def test_whole_numbers_of_a_class_of_their_own(self):
        class Named(int):
            def __repr__(self):
                return "named"

        told = changed(Skin([(7, 2, 4)]), ("on", (Named(2), Named(4)), Named(5)))
        self.assertEqual(repr(told.triangles()), "[(2, 4, 7), (2, 5, 4)]")


class HeldTest(unittest.TestCase):
    """Held against the slow reading of the document."""

    def hold(self, triples, skin, deed):
        asked = slowdeeds.changed(triples, deed)
        self.assertEqual(told_of(skin, deed), asked, deed)
        return asked

    def hold_all(self, triples, sides, found):
        skin = Skin(triples)
        fresh = slowdeeds.fresh_of(triples)
        for deed in slowdeeds.all_deeds(triples, sides, fresh):
            asked = self.hold(triples, skin, deed)
            seen = asked[0] if asked[0] != "Spoilt" else asked[1]
            found[(deed[0], seen)] = found.get((deed[0], seen), 0) + 1
        self.assertEqual(skin.triangles(), shapes.slow_triangles(triples))

    def test_each_deed_at_each_side(self):
        found = {}
        for name, triples in small_skins():
            with self.subTest(name=name):
                self.hold_all(triples, slowly.chosen_sides(triples, 40), found)
        for seed in range(25):
            whole = slowly.chosen_closed(seed, 24)
            for triples in (whole, shapes.part_of(whole, seed), shapes.part_of(shapes.rings(2), seed)):
                self.hold_all(triples, slowly.chosen_sides(triples, 12), found)
        for name in NAMES:
            self.assertGreater(found.get((name, "skin"), 0), 20, name)
        for kind in (("turn", "triple"), ("turn", "side"), ("turn", "NoSide"), ("on", "NoSide"), ("close", "NoSide"),
                     ("out", "round"), ("draw", "side"), ("draw", "round")):
            self.assertGreater(found.get(kind, 0), 0, kind)

    def test_skins_of_two_hundred(self):
        found = {}
        for triples in (shapes.fan(200), shapes.wheel(200), shapes.spindle(100), shapes.fan(199), shapes.fan(198)):
            self.hold_all(triples, slowly.chosen_sides(triples, 3), found)

    def test_every_pair_of_corners(self):
        """Pairs that are sides, turned sides, none at all, and of two like corners."""
        for name, triples in small_skins():
            corners = shapes.corners_of(triples)[:9]
            skin = Skin(triples)
            fresh = slowdeeds.fresh_of(triples)
            for side in itertools.product(corners + [fresh, fresh + 1], repeat=2):
                deed = slowdeeds.all_deeds(triples, [side], fresh)[sum(side) % 6]
                self.hold(triples, skin, deed)

    def test_corners_new_and_taken(self):
        for triples in (shapes.STRIP, shapes.TETRAHEDRON, shapes.sleeve(4), shapes.STRIP + [(10, 11, 12)]):
            skin = Skin(triples)
            for side in shapes.all_sides(triples)[::2] + [(1, 0), (0, 0)]:
                for corner in shapes.corners_of(triples) + [9, 20, BIG]:
                    for name in ("in", "on", "close"):
                        self.hold(triples, skin, (name, side, corner))

    def test_all_triples_that_are_nothing_but_a_few_triangles(self):
        """Skins of up to three triangles over five corners, each deed at each of their sides."""
        pool = [(a, b, c) for a, b, c in itertools.permutations(range(5), 3) if a < b and a < c]
        for many in range(1, 4):
            for triples in itertools.islice(itertools.combinations(pool, many), 0, None, many * many):
                triples = list(triples)
                if shapes.slow_fault(triples) is None:
                    self.hold_all(triples, shapes.all_sides(triples)[::many], {})


class ThereAndBackTest(unittest.TestCase):

    def each(self):
        for name, triples in small_skins():
            skin = Skin(triples)
            for side in slowly.chosen_sides(triples, 20):
                yield skin, side

    def test_a_side_turned_over_and_back(self):
        turned = 0
        for skin, (a, b) in self.each():
            c, d = skin.third(a, b), skin.third(b, a)
            if told_of(skin, ("turn", (a, b)))[0] == "skin":
                beyond = changed(skin, ("turn", (a, b)))
                self.assertIsNone(beyond.third(a, b))
                self.assertEqual((beyond.third(d, c), beyond.third(c, d)), (a, b))
                self.assertEqual(changed(beyond, ("turn", (d, c))).triangles(), skin.triangles())
                self.assertEqual(changed(beyond, ("turn", (c, d))).triangles(), skin.triangles())
                turned += 1
        self.assertGreater(turned, 30)

    def test_a_corner_put_in_and_drawn(self):
        for skin, (a, b) in self.each():
            fresh = skin.corners()[-1] + 1
            within = changed(skin, ("in", (a, b), fresh))
            self.assertEqual(len(within.triangles()), len(skin.triangles()) + 2)
            self.assertEqual(changed(within, ("draw", (a, fresh))).triangles(), skin.triangles())

    def test_a_triangle_put_on_and_taken_out(self):
        for skin, (a, b) in self.each():
            if skin.third(b, a) is None:
                fresh = skin.corners()[-1] + 1
                more = changed(skin, ("on", (a, b), fresh))
                for side in ((b, a), (a, fresh), (fresh, b)):
                    self.assertEqual(changed(more, ("out", side)).triangles(), skin.triangles())
                self.assertEqual(changed(more, ("draw", (a, fresh))).triangles(), skin.triangles())

    def test_a_rim_closed_and_its_triangles_taken_out(self):
        for skin, (a, b) in self.each():
            if skin.third(b, a) is None:
                fresh = skin.corners()[-1] + 1
                whole = changed(skin, ("close", (a, b), fresh))
                while fresh in whole.corners():
                    # Always the next one about the cap, so that the others hang together.
                    steps = [(p, q) for h, p, q in self.about(whole, fresh)]
                    first = [(p, q) for p, q in steps if whole.third(p, fresh) is None] or steps
                    whole = changed(whole, ("out", (fresh, first[0][0])))
                self.assertEqual(whole.triangles(), skin.triangles())

    def about(self, skin, corner):
        return [shapes.begun_at(triple, corner) for triple in skin.triangles() if corner in triple]


class RefusedTest(unittest.TestCase):

    def refused(self, triples, deed, error):
        with self.assertRaises(error):
            changed(Skin(triples), deed)

    def test_what_is_no_deed(self):
        strange = things.Strange()
        wrong = things.THINGS + [
            # other words, and no words
            ("turned", (0, 1)), ("", (0, 1)), ("Turn", (0, 1)), ("turn ", (0, 1)), ("IN", (0, 1), 9), (b"turn", (0, 1)),
            (None, (0, 1)), (0, (0, 1)), (["turn"], (0, 1)), ({}, (0, 1)), (("turn",), (0, 1)), (strange, (0, 1)),
            ("undo", (0, 1)), ("put", (0, 1), 9), (True, (0, 1), 9), ("no such", (0, 1)),
            # other lengths
            ("turn",), ("in",), ("turn", (0, 1), 9), ("out", (0, 1), 9), ("draw", (0, 1), 9), ("in", (0, 1)),
            ("on", (0, 1)), ("close", (0, 1)), ("in", (0, 1), 9, 9), ("turn", (0, 1), None), ("in", (0, 1), None),
            ("turn", 0, 1), ("in", 0, 1, 9), ("turn", (0, 1), (0, 1)), ("turn", (0, 1), 9, 9),
            # other kinds without and within
            ["turn", (0, 1)], ["in", (0, 1), 9], {"turn": (0, 1)}, "turn", ("turn", [0, 1]), ("in", [0, 1], 9),
            ("turn", {0: 1}), ("turn", {0, 1}), ("turn", "01"), ("turn", None), ("turn", 0), ("turn", strange),
            ("in", (0, 1), [9]), ("in", (0, 1), {}), ("in", (0, 1), "9"), ("in", (0, 1), (9,)), ("in", (0, 1), strange),
            ("in", strange, 9), ("turn", (strange, 1)), ("turn", (0, strange)), ("turn", ([], 1)), ("turn", (0, {})),
            # sides that are none
            ("turn", ()), ("turn", (0,)), ("turn", (0, 1, 2)), ("in", (0, 1, 2), 9), ("turn", ((0, 1),)),
            ("turn", (0, None)), ("turn", (None, 1)), ("turn", ("0", "1")), ("turn", (0.0, 1)), ("turn", (0, 1.0)),
            ("turn", (-1, 0)), ("turn", (0, -1)), ("out", (-1, -1)), ("in", (0, -1), 9), ("turn", ((0,), 1)),
            # truths for corners, and corners that are none
            ("turn", (False, 1)), ("turn", (0, True)), ("turn", (False, True)), ("in", (0, 1), True),
            ("in", (0, 1), False), ("on", (0, True), 9), ("in", (0, 1), -1), ("on", (0, 1), -1), ("in", (0, 1), 9.0),
            ("close", (0, 1), -BIG), ("close", (False, True), 9),
        ]
        for triples in (shapes.TETRAHEDRON, shapes.STRIP, []):
            for thing in wrong:
                with self.subTest(thing=object.__repr__(thing)):
                    self.assertFalse(slowdeeds.is_deed(thing))
                    self.refused(triples, thing, NoDeed)

    def test_no_side(self):
        for name in ("turn", "out", "draw"):
            for side in ((0, 3), (3, 0), (0, 9), (9, 0), (0, 0), (3, 3), (9, 9), (0, 4), (BIG, 0), (BIG, BIG)):
                self.refused(shapes.STRIP, (name, side), NoSide)
                self.refused([], (name, side), NoSide)
        for name in ("in", "on", "close"):
            for side in ((0, 3), (3, 0), (0, 9), (9, 0), (0, 0), (3, 3), (9, 9), (0, 4), (BIG, 0), (BIG, BIG)):
                self.refused(shapes.STRIP, (name, side, 20), NoSide)
                self.refused([], (name, side, 20), NoSide)

    def test_no_side_where_only_the_turned_one_is_there(self):
        for name in ("turn", "out", "draw"):
            self.refused(shapes.STRIP, (name, (1, 0)), NoSide)
        for name in ("in", "on", "close"):
            self.refused(shapes.STRIP, (name, (1, 0), 9), NoSide)

    def test_turn_at_a_rim(self):
        for side in ((0, 1), (1, 3), (3, 4), (4, 2), (2, 0)):
            self.refused(shapes.STRIP, ("turn", side), NoSide)

    def test_on_and_close_at_no_rim(self):
        for name in ("on", "close"):
            for side in ((1, 2), (2, 1), (2, 3), (3, 2)):
                self.refused(shapes.STRIP, (name, side, 9), NoSide)
            for side in shapes.all_sides(shapes.torus()):
                self.refused(shapes.torus(), (name, side, 9), NoSide)

    def test_taken(self):
        for corner in range(5):
            self.refused(shapes.STRIP, ("in", (0, 1), corner), Taken)
            self.refused(shapes.STRIP, ("on", (0, 1), corner), Taken)
            self.refused(shapes.STRIP, ("close", (0, 1), corner), Taken)
        two = shapes.STRIP + [(10, 11, 12)]
        for name in ("in", "on", "close"):
            self.refused(two, (name, (0, 1), 11), Taken)

    def spoilt(self, triples, deed, kind):
        with self.assertRaises(Spoilt) as caught:
            changed(Skin(triples), deed)
        self.assertEqual(caught.exception.kind, kind)

    def test_spoilt_many(self):
        self.spoilt(shapes.fan(200), ("on", (0, 1), 999), "many")
        self.spoilt(shapes.fan(200), ("in", (0, 1), 999), "many")
        self.spoilt(shapes.fan(199), ("in", (0, 1), 999), "many")
        self.spoilt(shapes.wheel(101), ("close", (1, 2), 999), "many")
        self.assertEqual(len(changed(Skin(shapes.fan(199)), ("on", (0, 1), 999)).triangles()), 200)
        self.assertEqual(len(changed(Skin(shapes.fan(198)), ("in", (0, 1), 999)).triangles()), 200)
        self.assertEqual(len(changed(Skin(shapes.wheel(100)), ("close", (1, 2), 999)).triangles()), 200)

    def test_spoilt_triple(self):
        for side in shapes.all_sides([(0, 1, 2), (0, 2, 1)]):
            self.spoilt([(0, 1, 2), (0, 2, 1)], ("turn", side), "triple")
        # A wheel of two: the triangles of (1, 2) and (2, 1) have the same third corner.
        self.spoilt([(0, 1, 2), (0, 2, 1), (7, 8, 9)], ("turn", (1, 2)), "triple")

    def test_spoilt_side(self):
        for side in shapes.all_sides(shapes.TETRAHEDRON):
            self.spoilt(shapes.TETRAHEDRON, ("turn", side), "side")
        for side in shapes.all_sides(shapes.torus()):
            self.spoilt(shapes.torus(), ("turn", side), "side")
            self.spoilt(shapes.torus(), ("draw", side), "side")

    def test_spoilt_round(self):
        self.spoilt(shapes.fan(3), ("out", (0, 2)), "round")
        self.spoilt(shapes.sleeve(8), ("draw", (0, 8)), "round")
        # The triangle amid a wheel's ring of other ones, of which each corner is at the rim.
        self.spoilt([(0, 1, 2), (1, 0, 3), (2, 1, 4), (0, 2, 5)], ("out", (0, 1)), "round")

    def test_the_first_kind_of_several(self):
        # Both a side that comes twice and a corner whose triangles don't hang together.
        triples = shapes.rings(2)
        found = 0
        for side in shapes.all_sides(triples):
            behind = slowdeeds.triples_behind(triples, ("draw", side))
            if shapes.slow_side_fault(behind) and shapes.slow_round_fault(behind):
                self.spoilt(triples, ("draw", side), "side")
                found += 1
        self.assertGreater(found, 0)
        # The triple goes ahead of its side, which comes twice too.
        behind = slowdeeds.triples_behind([(0, 1, 2), (0, 2, 1)], ("turn", (0, 1)))
        self.assertIsNotNone(shapes.slow_triple_fault(behind))
        self.spoilt([(0, 1, 2), (0, 2, 1)], ("turn", (0, 1)), "triple")

    def test_the_errors_in_their_order(self):
        # No deed goes ahead of no side, this ahead of taken, this ahead of spoilt.
        self.refused(shapes.STRIP, ("in", (0, 3), True), NoDeed)
        self.refused(shapes.STRIP, ("on", (0, 0), -1), NoDeed)
        self.refused(shapes.STRIP, ("turned", (0, 3)), NoDeed)
        self.refused(shapes.STRIP, ("in", (0, 3), 1), NoSide)
        self.refused(shapes.STRIP, ("on", (1, 2), 1), NoSide)
        self.refused(shapes.STRIP, ("close", (2, 3), 0), NoSide)
        self.refused(shapes.fan(200), ("in", (0, 1), 5), Taken)
        self.refused(shapes.fan(200), ("on", (0, 1), 5), Taken)
        self.refused(shapes.fan(200), ("close", (0, 1), 5), Taken)
        self.refused(shapes.fan(200), ("on", (0, 2), 999), NoSide)
        self.refused(shapes.fan(200), ("in", (1, 0), 999), NoSide)

    def test_spoilt_bears_its_kind(self):
        self.assertEqual(errors.Spoilt("side").kind, "side")


class KeptApartTest(unittest.TestCase):

    def test_the_elder_skin_stays(self):
        for name, triples in small_skins():
            skin = Skin(triples)
            corners = skin.corners()
            for deed in slowdeeds.all_deeds(triples, slowly.chosen_sides(triples, 6), slowdeeds.fresh_of(triples)):
                told_of(skin, deed)
                self.assertEqual(skin.triangles(), shapes.slow_triangles(triples))
                self.assertEqual(skin.corners(), corners)
            for a, b in slowly.chosen_sides(triples, 6):
                self.assertEqual(skin.third(a, b), shapes.slow_third(triples, a, b))

    def test_the_same_again(self):
        skin = Skin(shapes.sleeve(4))
        for deed in (("in", (0, 1), 20), ("on", (0, 1), 20), ("close", (0, 1), 20), ("turn", (1, 4)), ("draw", (0, 1))):
            before = changed(skin, deed).triangles()
            changed(skin, deed).triangles().clear()
            self.assertEqual(changed(skin, deed).triangles(), before)


if __name__ == "__main__":
    unittest.main()
