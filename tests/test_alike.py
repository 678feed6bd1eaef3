"""Point 21: two skins told alike with pairs, or unlike by where their words part."""

import random
import unittest

import shapes
import slowdeeds
import slowly
from shapestring.alike import paired
from shapestring.changes import changed
from shapestring.errors import ShapeError
from shapestring.skins import Skin

CHIRAL = shapes.STRIP + [(3, 1, 5), (5, 6, 3)]


def renamed(triples, seed):
    """The same shape over other corners, in another order, each triple begun at another corner."""
    chance = random.Random(seed)
    corners = shapes.corners_of(triples)
    names = dict(zip(corners, chance.sample(range(3 * len(corners) + 5), len(corners))))
    told = [shapes.turned(tuple(names[c] for c in triple), chance.randrange(3)) for triple in triples]
    chance.shuffle(told)
    return told


class AlikeTest(unittest.TestCase):

    def hold(self, one, other):
        told = paired(Skin(one), Skin(other))
        self.assertEqual((type(told), len(told), told[0]), (tuple, 2, "alike"))
        pairs = told[1]
        self.assertIs(type(pairs), list)
        self.assertEqual({type(pair) for pair in pairs}, {tuple} if pairs else set())
        self.assertEqual(pairs, sorted(pairs))
        names = dict(pairs)
        self.assertEqual([a for a, b in pairs], shapes.corners_of(one))
        self.assertEqual(sorted(b for a, b in pairs), shapes.corners_of(other))
        become = [tuple(names[c] for c in triple) for triple in one]
        self.assertEqual(shapes.slow_triangles(become), shapes.slow_triangles(other))

    def test_by_hand(self):
        self.assertEqual(paired(Skin([]), Skin([])), ("alike", []))
        self.hold([(7, 2, 4)], [(0, 1, 2)])
        self.assertEqual(paired(Skin(shapes.STRIP), Skin(shapes.shifted(shapes.STRIP, 10))),
                         ("alike", [(0, 10), (1, 11), (2, 12), (3, 13), (4, 14)]))

    def test_a_skin_with_itself(self):
        for name, triples in shapes.skins():
            if len(triples) < 90:
                self.hold(triples, triples)
        self.hold(shapes.spindle(100), shapes.spindle(100))

    def test_other_names_order_and_beginnings(self):
        for seed, (name, triples) in enumerate(shapes.skins()):
            if len(triples) < 90:
                with self.subTest(name=name):
                    for turn in range(3):
                        self.hold(triples, renamed(triples, 10 * seed + turn))
                        self.hold(renamed(triples, seed), triples)

    def test_chosen_skins(self):
        for seed in range(12):
            whole = slowly.chosen_closed(seed, 24)
            for triples in (whole, shapes.part_of(whole, seed)):
                self.hold(triples, renamed(triples, seed))

    def test_several_like_pieces(self):
        one = shapes.apart(9)
        self.hold(one, renamed(one, 1))
        two = shapes.STRIP + shapes.shifted(shapes.STRIP, 10) + shapes.shifted(shapes.torus(), 20)
        two += shapes.shifted(shapes.torus()[1:], 40) + shapes.shifted(shapes.STRIP, 50)
        for seed in range(6):
            self.hold(two, renamed(two, seed))

    def test_pieces_in_another_order(self):
        one = shapes.torus() + shapes.shifted(shapes.STRIP, 20) + shapes.shifted(shapes.TETRAHEDRON, 40)
        other = shapes.TETRAHEDRON + shapes.shifted(shapes.torus(), 30) + shapes.shifted(shapes.STRIP, 10)
        self.hold(one, other)

    def test_two_hundred_triangles(self):
        self.hold(shapes.wheel(200), renamed(shapes.wheel(200), 5))

    def test_corners_of_sixty_figures(self):
        self.hold(shapes.renamed_big(shapes.STRIP), shapes.STRIP)


class UnlikeTest(unittest.TestCase):

    def hold(self, one, other):
        """Either way round, against the slow reading; and against ways found without words."""
        asked = slowdeeds.paired(one, other)
        for mine, yours in ((one, other), (other, one)):
            told = paired(Skin(mine), Skin(yours))
            if asked[0] == "alike":
                self.assertEqual(told[0], "alike")
            else:
                self.assertEqual(told, asked)
        if len(shapes.slow_pieces(one)) == len(shapes.slow_pieces(other)) == 1:
            self.assertEqual(asked[0] == "alike", slowdeeds.ways(one, other) > 0)
        return asked[0]

    def test_by_hand(self):
        one, two, none = Skin([(0, 1, 2)]), Skin(shapes.TETRAHEDRON), Skin([])
        # CCLE both, but the one has a cap.
        self.assertEqual(paired(one, two), ("unlike", 0, 4))
        self.assertEqual(paired(two, one), ("unlike", 0, 4))
        # CCLE and CE.
        self.assertEqual(paired(one, Skin([(0, 1, 2), (0, 2, 1)])), ("unlike", 0, 1))
        # CCLE and CCCLLE.
        self.assertEqual(paired(one, Skin(shapes.fan(2))), ("unlike", 0, 2))
        self.assertEqual(paired(none, one), ("unlike", 0, 0))
        self.assertEqual(paired(one, none), ("unlike", 0, 0))

    def test_a_piece_that_lacks(self):
        self.assertEqual(paired(Skin(shapes.apart(3)), Skin(shapes.apart(5))), ("unlike", 3, 0))
        self.assertEqual(paired(Skin(shapes.apart(5)), Skin(shapes.apart(3))), ("unlike", 3, 0))
        self.assertEqual(paired(Skin([]), Skin(shapes.apart(5))), ("unlike", 0, 0))
        self.hold(shapes.STRIP, shapes.STRIP + [(10, 11, 12)])

    def test_the_first_of_the_sorted_pieces(self):
        # The fan's word is the least, then the triangle's; so the second piece parts them.
        one = shapes.fan(2) + [(10, 11, 12)]
        other = shapes.fan(2) + shapes.shifted([(0, 1, 2), (0, 2, 1)], 10)
        self.assertEqual(paired(Skin(one), Skin(other)), ("unlike", 1, 1))
        self.assertEqual(paired(Skin(other), Skin(one)), ("unlike", 1, 1))
        # Ahead of the pieces that are alike one lacks.
        self.assertEqual(paired(Skin(one), Skin([(10, 11, 12)])), ("unlike", 0, 2))

    def test_skins_one_with_another(self):
        small = [triples for name, triples in shapes.skins() if len(triples) < 20]
        for at, one in enumerate(small):
            for other in small[at:]:
                self.hold(one, other)

    def test_skins_in_a_mirror(self):
        self.assertEqual(self.hold(shapes.STRIP, shapes.mirrored(shapes.STRIP)), "alike")
        self.assertEqual(self.hold(shapes.TETRAHEDRON, shapes.mirrored(shapes.TETRAHEDRON)), "alike")
        self.assertEqual(self.hold(CHIRAL, shapes.mirrored(CHIRAL)), "unlike")
        self.hold(shapes.torus(), shapes.mirrored(shapes.torus()))
        for seed in range(10):
            triples = shapes.part_of(shapes.spindle(5), seed)
            self.hold(triples, shapes.mirrored(triples))

    def test_a_deed_apart(self):
        """Skins of the same numbers of corners and triangles: a side is turned over."""
        found = {"alike": 0, "unlike": 0}
        for triples in (shapes.spindle(5), shapes.wheel(5), shapes.sleeve(4), shapes.fan(2), shapes.fan(3), CHIRAL):
            for side in shapes.all_sides(triples):
                try:
                    other = changed(Skin(triples), ("turn", side)).triangles()
                except ShapeError:
                    continue
                found[self.hold(triples, other)] += 1
        self.assertGreater(min(found.values()), 0, found)

    def test_the_same_closed_skin_with_other_caps(self):
        # A sleeve with a corner put in, closed at no rim, at the one, at the other, and at both.
        sleeve = Skin(shapes.put_in(shapes.sleeve(3), 0))
        inner, outer = changed(sleeve, ("close", (1, 2), 50)), changed(sleeve, ("close", (4, 3), 60))
        both = changed(inner, ("close", (4, 3), 60))
        kinds = [each.triangles() for each in (sleeve, inner, outer, both)]
        for at, one in enumerate(kinds):
            for other in kinds[at + 1:]:
                self.assertEqual(self.hold(one, other), "unlike")


class KeptApartTest(unittest.TestCase):

    def test_told_lists_are_the_askers_and_the_skins_stay(self):
        one, other = Skin(shapes.STRIP), Skin(shapes.shifted(shapes.STRIP, 10))
        before = paired(one, other)
        paired(one, other)[1].clear()
        paired(one, other)[1][0] = None
        self.assertEqual(paired(one, other), before)
        self.assertEqual(one.triangles(), shapes.slow_triangles(shapes.STRIP))
        self.assertEqual(other.corners(), [10, 11, 12, 13, 14])


if __name__ == "__main__":
    unittest.main()
