"""Point 22: a skin kept with its word through deeds that can be undone."""

import copy
import random
import unittest

import shapes
import slowdeeds
import slowly
import things
from shapestring.errors import Gone, NoDeed, NoPast, NoSide, ShapeError, Spoilt, Taken
from shapestring.kept import Kept
from shapestring.mending import mended
from shapestring.skins import Skin
from shapestring.winding import wound_off
from shapestring.wordtexts import read_word

BIG = shapes.BIG


def state(kept):
    """All that a kept skin tells."""
    return (kept.skin().triangles(), kept.side(), kept.wound(), kept.deeds())


def done(kept, deed):
    """What do tells, in the form of the slow reading."""
    try:
        return kept.do(deed)
    except Spoilt as e:
        return ("Spoilt", e.kind)
    except ShapeError as e:
        return (type(e).__name__,)


def chosen_deed(chance, triples):
    """A deed at a side of the skin, rather one that lessens it where there is much of it."""
    names = ["turn", "out", "draw", "in", "on", "on", "close"] if len(triples) < 24 else ["turn", "out", "draw"]
    name = chance.choice(names)
    side = chance.choice(shapes.all_sides(triples))
    if name in ("in", "on", "close"):
        corner = slowdeeds.fresh_of(triples) if chance.randrange(6) else chance.choice(shapes.corners_of(triples))
        return (name, side, corner)
    return (name, side if chance.randrange(6) else side[::-1])


class ByHandTest(unittest.TestCase):

    def test_begun(self):
        kept = Kept(Skin([(7, 2, 4)]), (2, 4))
        self.assertEqual(kept.skin().triangles(), [(2, 4, 7)])
        self.assertEqual(kept.side(), (2, 4))
        self.assertEqual(kept.wound(), (read_word("CCLE"), [3], [2, 4, 7, None]))
        self.assertEqual(kept.deeds(), [])

    def test_done_and_undone(self):
        kept = Kept(Skin([(7, 2, 4)]), (2, 4))
        self.assertEqual(kept.do(("on", (4, 7), 9)), ((3, 0, read_word("CL")), [3]))
        self.assertEqual(kept.wound(), (read_word("CCLCLE"), [3], [2, 4, 7, None, 9]))
        self.assertEqual(kept.skin().triangles(), [(2, 4, 7), (4, 9, 7)])
        self.assertEqual(kept.do(("close", (2, 4), 5)), ((6, 0, []), []))
        self.assertEqual(kept.wound(), (read_word("CCLCLE"), [], [2, 4, 7, 5, 9]))
        self.assertEqual(kept.deeds(), [("on", (4, 7), 9), ("close", (2, 4), 5)])
        self.assertEqual(kept.side(), (2, 4))
        self.assertEqual(kept.undo(), ((6, 0, []), [3]))
        self.assertEqual(kept.deeds(), [("on", (4, 7), 9)])
        self.assertEqual(kept.undo(), ((3, 2, []), [3]))
        self.assertEqual(state(kept), ([(2, 4, 7)], (2, 4), (read_word("CCLE"), [3], [2, 4, 7, None]), []))

    def test_done_undone_and_another_deed_done(self):
        kept = Kept(Skin(shapes.STRIP), (0, 1))
        kept.do(("turn", (2, 3)))
        kept.do(("on", (0, 1), 9))
        kept.undo()
        kept.do(("in", (0, 1), 8))
        self.assertEqual(kept.deeds(), [("turn", (2, 3)), ("in", (0, 1), 8)])
        self.assertEqual([type(deed) for deed in kept.deeds()], [tuple, tuple])
        kept.undo()
        kept.undo()
        self.assertEqual(state(kept), state(Kept(Skin(shapes.STRIP), (0, 1))))

    def test_kinds_of_what_is_told(self):
        kept = Kept(Skin(shapes.STRIP), (0, 1))
        for told in (kept.do(("in", (0, 1), 9)), kept.undo()):
            self.assertEqual((type(told), [type(each) for each in told]), (tuple, [tuple, list]))
            self.assertEqual([type(each) for each in told[0]], [int, int, list])
        self.assertIsInstance(kept.skin(), Skin)
        self.assertIs(type(kept.side()), tuple)
        self.assertEqual([type(each) for each in kept.wound()], [list] * 3)
        self.assertIs(type(kept.deeds()), list)


class HeldTest(unittest.TestCase):

    def hold(self, kept, triples, side, deeds):
        self.assertEqual(kept.skin().triangles(), shapes.slow_triangles(triples))
        self.assertEqual(kept.side(), side)
        self.assertEqual(kept.wound(), slowly.wound_off(triples, side))
        self.assertEqual(kept.deeds(), deeds)

    def walk(self, triples, seed, turns):
        """Deeds done, refused and undone; then all that is left undone."""
        chance = random.Random(seed)
        side = chance.choice(shapes.all_sides(triples))
        kept = Kept(Skin(triples), side)
        past = [triples]
        deeds = []
        seen = []
        for turn in range(turns):
            if deeds and chance.randrange(5) == 0:
                self.back(kept, past, side)
                deeds.pop()
            else:
                deed = chosen_deed(chance, past[-1])
                asked = slowdeeds.mended(past[-1], side, deed)
                before = state(kept)
                self.assertEqual(done(kept, deed), asked)
                seen.append(asked[0] if isinstance(asked[0], str) else "told")
                if seen[-1] == "told":
                    past.append(slowdeeds.changed(past[-1], deed)[1])
                    deeds.append(deed)
                else:
                    self.assertEqual(state(kept), before)
            self.hold(kept, past[-1], side, deeds)
        while deeds:
            self.back(kept, past, side)
            deeds.pop()
            self.hold(kept, past[-1], side, deeds)
        with self.assertRaises(NoPast):
            kept.undo()
        self.hold(kept, triples, side, [])
        return seen

    def back(self, kept, past, side):
        gone = past.pop()
        here = slowly.wound_off(past[-1], side)
        stretch = slowdeeds.stretch(slowly.wound_off(gone, side)[0], here[0])
        self.assertEqual(kept.undo(), (stretch, here[1]))

    def test_many_skins(self):
        seen = []
        for seed, (name, triples) in enumerate(shapes.skins()):
            if 0 < len(triples) < 30:
                with self.subTest(name=name):
                    seen += self.walk(triples, seed, 24)
        for kind in ("told", "NoSide", "Taken", "Spoilt", "Gone"):
            self.assertGreater(seen.count(kind), 3, kind)

    def test_chosen_skins(self):
        for seed in range(8):
            self.walk(shapes.part_of(slowly.chosen_closed(seed, 16), seed), seed, 16)

    def test_a_hundred_deeds_done_and_undone(self):
        kept = Kept(Skin(shapes.STRIP), (0, 1))
        states = [state(kept)]
        told = []
        chance = random.Random(22)
        while len(told) < 100:
            skin = kept.skin()
            deed = chosen_deed(chance, skin.triangles())
            try:
                asked = mended(skin, (0, 1), deed)
            except ShapeError as e:
                with self.assertRaises(type(e)):
                    kept.do(deed)
                self.assertEqual(state(kept), states[-1])
                continue
            told.append(kept.do(deed))
            self.assertEqual(told[-1], asked)
            self.assertEqual(kept.wound(), wound_off(kept.skin(), (0, 1)))
            states.append(state(kept))
            self.assertEqual(len(kept.deeds()), len(told))
        while len(states) > 1:
            here = states.pop()
            stretch, caps = kept.undo()
            self.assertEqual(state(kept), states[-1])
            self.assertEqual(stretch, slowdeeds.stretch(here[2][0], states[-1][2][0]))
            self.assertEqual(caps, states[-1][2][1])
        with self.assertRaises(NoPast):
            kept.undo()


class RefusedTest(unittest.TestCase):

    def test_no_side_of_anything(self):
        wrong = [(1, 0), (0, 3), (0, 0), (9, 0), (BIG, 0), [0, 1], (0, 1, 2), (False, True), (0, True), "01"]
        for triples in (shapes.STRIP, []):
            for side in wrong + things.THINGS:
                with self.subTest(side=object.__repr__(side)):
                    with self.assertRaises(NoSide):
                        Kept(Skin(triples), side)
        with self.assertRaises(NoSide):
            Kept(Skin([]), (0, 1))

    def test_nothing_to_undo(self):
        kept = Kept(Skin(shapes.STRIP), (0, 1))
        before = state(kept)
        for turn in range(3):
            with self.assertRaises(NoPast):
                kept.undo()
            self.assertEqual(state(kept), before)
        kept.do(("in", (0, 1), 9))
        kept.undo()
        with self.assertRaises(NoPast):
            kept.undo()
        self.assertEqual(state(kept), before)

    def test_refused_deeds_are_not_undone(self):
        kept = Kept(Skin(shapes.STRIP), (0, 1))
        with self.assertRaises(Gone):
            kept.do(("out", (0, 1)))
        with self.assertRaises(NoPast):
            kept.undo()

    def test_refused_as_mended_when_nothing_is_changed(self):
        kept = Kept(Skin(shapes.STRIP), (0, 1))
        kept.do(("turn", (2, 3)))
        before = state(kept)
        no_deeds = things.THINGS + [("turned", (0, 1)), ["out", (0, 1)], ("in", (0, 9), True)]
        refusals = [(deed, NoDeed) for deed in no_deeds]
        refusals += [(("out", (1, 0)), NoSide), (("turn", (0, 1)), NoSide), (("in", (0, 9), 1), NoSide),
                     (("on", (1, 2), 0), NoSide), (("in", (0, 1), 4), Taken), (("close", (0, 1), 2), Taken),
                     (("out", (0, 1)), Gone), (("draw", (0, 1)), Gone), (("out", (1, 4)), Spoilt)]
        for deed, error in refusals:
            with self.subTest(deed=object.__repr__(deed)):
                with self.assertRaises(error):
                    kept.do(deed)
                self.assertEqual(state(kept), before)

    def test_spoilt_by_its_kind(self):
        for triples, side, deed, kind in (
                (shapes.fan(200), (0, 1), ("on", (0, 1), 999), "many"),
                ([(0, 1, 2), (0, 2, 1)], (0, 1), ("turn", (1, 2)), "triple"),
                (shapes.TETRAHEDRON, (0, 1), ("turn", (1, 2)), "side"),
                (shapes.fan(3), (0, 2), ("out", (0, 2)), "round")):
            kept = Kept(Skin(triples), side)
            with self.assertRaises(Spoilt) as caught:
                kept.do(deed)
            self.assertEqual(caught.exception.kind, kind)
            self.assertEqual((kept.deeds(), kept.skin().triangles()), ([], shapes.slow_triangles(triples)))


class KeptApartTest(unittest.TestCase):

    def test_two_kept_skins_of_one_skin(self):
        skin = Skin(shapes.STRIP)
        one, other = Kept(skin, (0, 1)), Kept(skin, (0, 1))
        before = state(other)
        one.do(("in", (0, 1), 9))
        self.assertEqual(state(other), before)
        other.do(("on", (0, 1), 9))
        other.do(("turn", (2, 3)))
        self.assertEqual(one.deeds(), [("in", (0, 1), 9)])
        one.undo()
        self.assertEqual(state(one), before)
        self.assertEqual(len(other.deeds()), 2)
        self.assertEqual(skin.triangles(), shapes.slow_triangles(shapes.STRIP))
        with self.assertRaises(NoPast):
            one.undo()

    def test_a_skin_told_on_the_way_stays(self):
        kept = Kept(Skin(shapes.STRIP), (0, 1))
        told = []
        for deed in (("in", (0, 1), 9), ("turn", (2, 3)), ("close", (0, 1), 10)):
            told.append((kept.skin(), kept.skin().triangles()))
            kept.do(deed)
        while kept.deeds():
            told.append((kept.skin(), kept.skin().triangles()))
            kept.undo()
        for skin, triangles in told:
            self.assertEqual(skin.triangles(), triangles)

    def test_told_lists_and_those_within_are_the_askers(self):
        kept = Kept(Skin(shapes.sleeve(4)), (0, 1))
        kept.do(("in", (0, 1), 20))
        before = copy.deepcopy(state(kept))
        for each in kept.wound():
            each.clear()
        for each in kept.wound():
            each[0] = None
        kept.deeds().clear()
        kept.deeds().append(None)
        kept.skin().triangles().clear()
        kept.skin().corners().clear()
        self.assertEqual(state(kept), before)

    def test_what_do_and_undo_tell_is_the_askers(self):
        kept, untouched = Kept(Skin(shapes.sleeve(4)), (0, 1)), Kept(Skin(shapes.sleeve(4)), (0, 1))
        for deed in (("in", (0, 1), 20), ("on", (0, 1), 21), ("turn", (1, 4))):
            self.spoil(kept.do(deed))
            untouched.do(deed)
            self.assertEqual(state(kept), state(untouched))
        while kept.deeds():
            self.spoil(kept.undo())
            untouched.undo()
            self.assertEqual(state(kept), state(untouched))

    def spoil(self, told):
        told[0][2].append(None)
        told[0][2].reverse()
        told[1].clear()

    def test_the_list_the_skin_was_made_of(self):
        triples = list(shapes.STRIP)
        kept = Kept(Skin(triples), (0, 1))
        triples.clear()
        self.assertEqual(kept.skin().triangles(), shapes.slow_triangles(shapes.STRIP))


if __name__ == "__main__":
    unittest.main()
