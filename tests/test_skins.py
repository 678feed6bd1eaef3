"""Points 2, 4 and 5: what a skin is, what it is refused for, what it tells."""

import copy
import itertools
import random
import unittest

import shapes
from shapestring.errors import NoSkin, TooMany
from shapestring.skins import Skin

BIG = 10 ** 60 - 1


class Strange:
    """A thing that bears no comparison."""

    __hash__ = None

    def __eq__(self, other):
        raise AssertionError("compared")

    def __len__(self):
        raise AssertionError("measured")


class Named(int):
    def __str__(self):
        return "named"

    __repr__ = __str__


NO_TRIPLES = [
    None, True, False, 0, 5, -1, 1.5, "", "012", "0 1 2", b"012", [], [0, 1, 2], {}, {0: 1, 1: 2, 2: 3},
    {0, 1, 2}, frozenset({0, 1, 2}), range(3), object(), Strange(), int, len, iter([0, 1, 2]),
    (), (0,), (0, 1), (0, 1, 2, 3), ((0, 1, 2),), ((0, 1), (1, 2), (2, 0)),
    (True, 2, 3), (2, True, 3), (2, 3, True), (False, 1, 2), (1, False, 2), (1, 2, False), (True, False, 2),
    (-1, 1, 2), (1, -1, 2), (1, 2, -1), (-BIG, 1, 2), (-3, -2, -1),
    (0, 0, 1), (0, 1, 0), (1, 0, 0), (0, 0, 0), (BIG, 1, BIG), (1, 1, True),
    (0, 1, None), (0, None, 2), (None, 1, 2), (None, None, None),
    (0, 1, "2"), ("0", "1", "2"), (0, 1, 2.0), (0.0, 1, 2), (0, 1, 2 + 0j), (0, 1, float("nan")),
    (0, 1, [2]), ([0], [1], [2]), (0, 1, {}), (0, 1, (2,)), (0, 1, b"2"), (0, {1}, 2),
    (0, 1, Strange()), (Strange(), 1, 2), (0, Strange(), 2), (0, 1, object()), (0, 1, int),
]


def fault_of(things):
    """The fault that Skin refuses the things for, or None."""
    try:
        Skin(things)
    except NoSkin as e:
        return e.fault
    return None


def shuffled(triples, seed):
    """The same triangles in another order, begun at other corners."""
    chance = random.Random(seed)
    others = [shapes.turned(triple, chance.randrange(3)) for triple in triples]
    chance.shuffle(others)
    return others


class ToldTest(unittest.TestCase):

    def test_the_empty_list(self):
        skin = Skin([])
        self.assertEqual(skin.triangles(), [])
        self.assertEqual(skin.corners(), [])
        self.assertIsNone(skin.third(0, 1))

    def test_one_triangle(self):
        for triple in ((4, 7, 2), (7, 2, 4), (2, 4, 7)):
            skin = Skin([triple])
            self.assertEqual(skin.triangles(), [(2, 4, 7)])
            self.assertEqual(skin.corners(), [2, 4, 7])

    def test_the_turned_triangle_is_another_one(self):
        self.assertEqual(Skin([(7, 4, 2)]).triangles(), [(2, 7, 4)])
        self.assertEqual(Skin([(0, 2, 1), (1, 2, 0)]).triangles(), [(0, 1, 2), (0, 2, 1)])

    def test_any_order_begun_at_any_corner(self):
        for name, triples in SKINS:
            asked = shapes.slow_triangles(triples)
            for seed in range(5):
                with self.subTest(name=name, seed=seed):
                    skin = Skin(shuffled(triples, seed))
                    self.assertEqual(skin.triangles(), asked)
                    self.assertEqual(skin.corners(), sorted({c for triple in triples for c in triple}))

    def test_kinds_of_what_is_told(self):
        skin = Skin(shapes.TETRAHEDRON)
        self.assertIs(type(skin.triangles()), list)
        self.assertEqual({type(triple) for triple in skin.triangles()}, {tuple})
        self.assertIs(type(skin.corners()), list)

    def test_corners_rise_as_numbers(self):
        self.assertEqual(Skin([(10, 9, 100)]).corners(), [9, 10, 100])
        self.assertEqual(Skin([(10, 9, 100)]).triangles(), [(9, 100, 10)])

    def test_third_of_every_pair(self):
        for name, triples in SKINS:
            skin = Skin(triples)
            asked = skin.corners()[:12]
            for a, b in itertools.product(asked + [-1, 1000], repeat=2):
                with self.subTest(name=name, a=a, b=b):
                    self.assertEqual(skin.third(a, b), shapes.slow_third(triples, a, b))

    def test_third_of_sides_and_of_turned_rim_sides(self):
        skin = Skin([(5, 6, 7)])
        self.assertEqual([skin.third(5, 6), skin.third(6, 7), skin.third(7, 5)], [7, 5, 6])
        self.assertEqual([skin.third(6, 5), skin.third(7, 6), skin.third(5, 7)], [None, None, None])

    def test_third_of_strangers(self):
        skin = Skin(shapes.STRIP)
        for a, b in ((0, 3), (3, 0), (0, 0), (0, 9), (9, 0), (8, 9), (-1, 0), (0, -1), (-1, -2), (BIG, 0)):
            self.assertIsNone(skin.third(a, b))

    def test_third_that_is_corner_nought(self):
        self.assertEqual(Skin([(0, 1, 2)]).third(1, 2), 0)

    def test_corners_of_sixty_figures(self):
        triples = [(BIG, BIG - 1, 0), (BIG, 0, BIG - 2)]
        skin = Skin(triples)
        self.assertEqual(skin.triangles(), [(0, BIG - 2, BIG), (0, BIG, BIG - 1)])
        self.assertEqual(skin.corners(), [0, BIG - 2, BIG - 1, BIG])
        self.assertEqual(skin.third(0, BIG), BIG - 1)
        self.assertEqual(skin.third(BIG, 0), BIG - 2)

    def test_whole_numbers_of_a_class_of_their_own(self):
        skin = Skin([(Named(3), Named(4), Named(5))])
        self.assertEqual(repr(skin.triangles()), "[(3, 4, 5)]")
        self.assertEqual(repr(skin.corners()), "[3, 4, 5]")
        self.assertEqual(repr(skin.third(3, 4)), "5")


SKINS = [
    ("none", []),
    ("one", [(0, 1, 2)]),
    ("both ways round", [(0, 1, 2), (0, 2, 1)]),
    ("strip", shapes.STRIP),
    ("tetrahedron", shapes.TETRAHEDRON),
    ("torus", shapes.torus()),
    ("spindle", shapes.spindle(9)),
    ("two pieces", shapes.TETRAHEDRON + [(10, 12, 11)]),
    ("fan", [(0, k, k + 1) for k in range(1, 9)]),
    ("two hundred", shapes.spindle(100)),
]


class ManyTest(unittest.TestCase):

    def test_two_hundred_are_taken(self):
        self.assertEqual(len(Skin(shapes.apart(200)).triangles()), 200)
        self.assertEqual(len(Skin(shapes.spindle(100)).triangles()), 200)

    def test_two_hundred_and_one_are_refused(self):
        for triples in (shapes.apart(201), shapes.apart(250), shapes.spindle(101)):
            with self.assertRaises(TooMany):
                Skin(triples)

    def test_too_many_goes_ahead_of_all_other_faults(self):
        for things in ([None] * 201, [(0, 1, 2)] * 201, shapes.BOW_TIE + shapes.apart(201)[2:],
                       [None] + shapes.apart(200), shapes.apart(200) + [[]]):
            with self.assertRaises(TooMany):
                Skin(things)

    def test_two_hundred_with_a_fault_are_no_skin(self):
        self.assertEqual(fault_of([None] * 200), ("triple", 0))
        self.assertEqual(fault_of(shapes.apart(199) + [None]), ("triple", 199))
        self.assertEqual(fault_of(shapes.apart(199) + [(0, 1, 700)]), ("side", 199, (0, 1)))
        self.assertEqual(fault_of(shapes.apart(199) + [(0, 700, 701)]), ("round", 0))


class TripleFaultTest(unittest.TestCase):

    def test_things_that_are_no_triples(self):
        for thing in NO_TRIPLES:
            with self.subTest(thing=object.__repr__(thing)):
                self.assertEqual(fault_of([thing]), ("triple", 0))
                self.assertEqual(fault_of([(5, 6, 7), thing]), ("triple", 1))
                self.assertEqual(fault_of([(5, 6, 7), thing, (7, 6, 8)]), ("triple", 1))

    def test_the_least_number_is_told(self):
        self.assertEqual(fault_of([(0, 1, 2), None, [], None]), ("triple", 1))
        self.assertEqual(fault_of(NO_TRIPLES), ("triple", 0))

    def test_ahead_of_sides_and_rounds(self):
        self.assertEqual(fault_of([(0, 1, 2), (0, 1, 2), None]), ("triple", 2))
        self.assertEqual(fault_of(shapes.BOW_TIE + [(0, 0, 1)]), ("triple", 2))
        self.assertEqual(fault_of([(0, 1, 2), (0, 1, 3), (0, 4, 5), (9, 8)]), ("triple", 3))


class SideFaultTest(unittest.TestCase):

    def test_the_same_triangle_twice(self):
        for by in range(3):
            again = shapes.turned((0, 1, 2), by)
            self.assertEqual(fault_of([(0, 1, 2), again]), ("side", 1, again[:2]))

    def test_one_side_twice(self):
        self.assertEqual(fault_of([(0, 1, 2), (0, 1, 3)]), ("side", 1, (0, 1)))
        self.assertEqual(fault_of([(0, 1, 2), (3, 0, 1)]), ("side", 1, (0, 1)))
        self.assertEqual(fault_of([(0, 1, 2), (1, 3, 0)]), ("side", 1, (0, 1)))
        self.assertEqual(fault_of([(1, 2, 0), (4, 3, 5), (2, 0, 4)]), ("side", 2, (2, 0)))

    def test_the_least_number_then_the_first_side(self):
        self.assertEqual(fault_of([(0, 1, 2), (5, 1, 2), (0, 1, 4)]), ("side", 1, (1, 2)))
        triples = [(0, 1, 9), (1, 2, 8), (0, 1, 2)]
        self.assertEqual(fault_of(triples), ("side", 2, (0, 1)))
        triples = [(0, 1, 9), (1, 2, 8), (1, 2, 0)]
        self.assertEqual(fault_of(triples), ("side", 2, (1, 2)))
        triples = [(0, 1, 9), (1, 2, 8), (2, 0, 1)]
        self.assertEqual(fault_of(triples), ("side", 2, (0, 1)))

    def test_ahead_of_rounds(self):
        self.assertEqual(fault_of(shapes.BOW_TIE + [(7, 3, 4)]), ("side", 2, (3, 4)))

    def test_side_of_sixty_figures(self):
        self.assertEqual(fault_of([(BIG, 1, 2), (BIG, 1, 3)]), ("side", 1, (BIG, 1)))


class RoundFaultTest(unittest.TestCase):

    def test_two_fans(self):
        self.assertEqual(fault_of(shapes.BOW_TIE), ("round", 0))
        self.assertEqual(fault_of([(7, 8, 5), (5, 3, 4)]), ("round", 5))

    def test_two_rings(self):
        lifted = [tuple(c and c + 10 for c in triple) for triple in shapes.TETRAHEDRON]
        self.assertEqual(fault_of(shapes.TETRAHEDRON + lifted), ("round", 0))
        doubled = [(0, 1, 2), (0, 2, 1), (0, 3, 4), (0, 4, 3)]
        self.assertEqual(fault_of(doubled), ("round", 0))

    def test_a_ring_and_a_fan(self):
        lifted = [tuple(c + 3 for c in triple) for triple in shapes.TETRAHEDRON]
        self.assertEqual(fault_of([(1, 2, 3)] + lifted), ("round", 3))
        self.assertEqual(fault_of(lifted + [(1, 2, 3)]), ("round", 3))

    def test_the_least_corner_is_told(self):
        self.assertEqual(fault_of([(8, 1, 2), (8, 3, 4), (3, 5, 6)]), ("round", 3))
        self.assertEqual(fault_of([(0, 9, 10), (9, 11, 12), (10, 13, 14)]), ("round", 9))
        self.assertEqual(fault_of([(BIG, 1, 2), (BIG, 3, 4)]), ("round", BIG))

    def test_fans_of_a_row_told_in_any_order_are_taken(self):
        for order in itertools.permutations([(0, 1, 2), (0, 2, 3), (0, 3, 4), (0, 4, 5)]):
            self.assertIsNone(fault_of(list(order)))

    def test_rings_in_any_order_are_taken(self):
        for order in itertools.permutations(shapes.TETRAHEDRON):
            self.assertIsNone(fault_of(list(order)))


class AllFaultsTest(unittest.TestCase):
    """Held against the slow reading of the document."""

    def test_all_lists_of_up_to_three_triples_over_four_corners(self):
        triples = list(itertools.permutations(range(4), 3))
        for many in range(4):
            for things in itertools.product(triples, repeat=many):
                self.assertEqual(fault_of(list(things)), shapes.slow_fault(list(things)))

    def test_chosen_lists(self):
        chance = random.Random(4)
        seen = set()
        for turn in range(6000):
            many = chance.randrange(1, 9)
            spread = chance.randrange(3, 16)
            things = [tuple(chance.sample(range(spread), 3)) for k in range(many)]
            if chance.randrange(10) == 0:
                things[chance.randrange(many)] = (0, 1, True)
            fault = shapes.slow_fault(things)
            seen.add(fault and fault[0])
            self.assertEqual(fault_of(things), fault)
        self.assertEqual(seen, {None, "triple", "side", "round"})

    def test_parts_of_closed_skins(self):
        chance = random.Random(5)
        seen = set()
        for turn in range(1500):
            whole = chance.choice([shapes.torus(), shapes.spindle(6), shapes.TETRAHEDRON])
            things = shuffled(chance.sample(whole, chance.randrange(len(whole) + 1)), turn)
            fault = shapes.slow_fault(things)
            seen.add(fault and fault[0])
            self.assertEqual(fault_of(things), fault)
            if fault is None:
                self.assertEqual(Skin(things).triangles(), shapes.slow_triangles(things))
        self.assertEqual(seen, {None, "round"})


class KeptApartTest(unittest.TestCase):

    def test_nothing_handed_in_is_changed(self):
        for triples in (shapes.STRIP, shapes.BOW_TIE, [(0, 1, 2), (2, 0, 1)], [[2, 1, 0], (2, 1, 0)]):
            handed = copy.deepcopy(triples)
            fault_of(handed)
            self.assertEqual(handed, triples)

    def test_the_least_begun_triple_is_not_put_into_the_list_handed_in(self):
        handed = [(3, 2, 1), (2, 3, 0)]
        Skin(handed)
        self.assertEqual(handed, [(3, 2, 1), (2, 3, 0)])

    def test_a_later_change_does_not_matter(self):
        handed = list(shapes.STRIP)
        skin = Skin(handed)
        handed.clear()
        handed.append((7, 8, 9))
        self.assertEqual(skin.triangles(), shapes.slow_triangles(shapes.STRIP))
        self.assertEqual(skin.corners(), [0, 1, 2, 3, 4])
        self.assertEqual(skin.third(0, 1), 2)
        self.assertIsNone(skin.third(7, 8))

    def test_told_lists_are_the_askers(self):
        skin = Skin(shapes.STRIP)
        skin.triangles().clear()
        skin.triangles()[0] = None
        skin.corners().append(99)
        skin.corners().reverse()
        self.assertEqual(skin.triangles(), shapes.slow_triangles(shapes.STRIP))
        self.assertEqual(skin.corners(), [0, 1, 2, 3, 4])
        self.assertEqual(skin.third(0, 1), 2)

    def test_asked_again_the_same_is_told(self):
        skin = Skin(shapes.torus())
        self.assertEqual(skin.triangles(), skin.triangles())
        self.assertEqual(skin.corners(), skin.corners())
        self.assertEqual([skin.third(0, 1), skin.third(0, 4)], [skin.third(0, 1), skin.third(0, 4)])
        self.assertIsNot(skin.triangles(), skin.triangles())
        self.assertIsNot(skin.corners(), skin.corners())

    def test_several_skins_do_not_disturb_one_another(self):
        one = Skin([(0, 1, 2)])
        other = Skin([(0, 1, 3)])
        with self.assertRaises(NoSkin):
            Skin([(0, 1, 2), (0, 1, 3)])
        empty = Skin([])
        self.assertEqual([one.third(0, 1), other.third(0, 1), empty.third(0, 1)], [2, 3, None])
        self.assertEqual([one.corners(), other.corners(), empty.corners()], [[0, 1, 2], [0, 1, 3], []])
        self.assertEqual([one.triangles(), other.triangles()], [[(0, 1, 2)], [(0, 1, 3)]])

    def test_a_refusal_told_again_is_the_same(self):
        handed = [(0, 1, 2), (4, 0, 1)]
        self.assertEqual([fault_of(handed), fault_of(handed)], [("side", 1, (0, 1))] * 2)


if __name__ == "__main__":
    unittest.main()
