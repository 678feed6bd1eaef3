"""Points 2 and 3: what holds over the whole program."""

import unittest

import samples
import shapes
import slowdeeds
import slowly
from shapestring.alike import paired
from shapestring.bits import bits_of, read_bits
from shapestring.changes import changed
from shapestring.errors import ShapeError
from shapestring.kept import Kept
from shapestring.least import least
from shapestring.pieces import counted, pieces
from shapestring.plain import placed, plain
from shapestring.rims import rims
from shapestring.rounds import is_rim_side
from shapestring.skins import Skin
from shapestring.skintexts import read_skin, show_skin
from shapestring.winding import wound_off
from shapestring.words import wound_on
from shapestring.wordtexts import read_word, show_word

# What each deed adds to the numbers of corners, sides, triangles, pieces, handles and rims.
ADDED = {"turn": (0, 0, 0, 0, 0, 0), "in": (1, 3, 2, 0, 0, 0), "on": (1, 2, 1, 0, 0, 0)}


def small_skins():
    told = [triples for name, triples in shapes.skins() if 0 < len(triples) < 60]
    for seed in range(12):
        whole = slowly.chosen_closed(seed, 24)
        told += [whole, shapes.part_of(whole, seed)]
    return told


def numbers_by_words(skin):
    """The numbers of a skin, told by the words of its pieces alone."""
    told = [0, 0, 0, 0, 0, 0]
    for piece in pieces(skin):
        word, caps, corners = least(skin, piece[0])
        at_caps = [triple for triple in slowly.put_all(word)[1] if any(cap in triple for cap in caps)]
        told[0] += word.count(("C",)) + 2 - len(caps)
        told[1] += 3 * len(word) // 2 - len(at_caps)
        told[2] += len(word) - len(at_caps)
        told[3] += 1
        told[4] += len([letter for letter in word if samples.is_join(letter)])
        told[5] += len(caps)
    return tuple(told)


def added(skin, behind):
    return tuple(b - a for a, b in zip(counted(skin), counted(behind)))


class NumbersTest(unittest.TestCase):

    def test_by_the_word_and_by_the_skin_they_are_the_same(self):
        for triples in small_skins():
            skin = Skin(triples)
            self.assertEqual(numbers_by_words(skin), counted(skin))

    def test_behind_each_deed(self):
        seen = {}
        for triples in small_skins():
            skin = Skin(triples)
            sides = slowly.chosen_sides(triples, 10)
            for deed in slowdeeds.all_deeds(triples, sides, slowdeeds.fresh_of(triples)):
                try:
                    behind = changed(skin, deed)
                except ShapeError:
                    continue
                self.hold(skin, deed, behind)
                seen[deed[0]] = seen.get(deed[0], 0) + 1
                if seen[deed[0]] % 20 == 0:
                    self.assertEqual(numbers_by_words(behind), counted(behind))
        self.assertEqual(sorted(seen), sorted(["turn", "in", "on", "out", "close", "draw"]))
        self.assertGreater(min(seen.values()), 30)

    def hold(self, skin, deed, behind):
        more = added(skin, behind)
        if deed[0] in ADDED:
            self.assertEqual(more, ADDED[deed[0]], deed)
        elif deed[0] == "close":
            rim = [rim for rim in rims(skin) if deed[1][0] in rim][0]
            self.assertEqual(more, (1, len(rim), len(rim), 0, 0, -1), deed)
        elif deed[0] == "out":
            a, b = deed[1]
            c = skin.third(a, b)
            open_sides = sum(is_rim_side(skin, side) for side in shapes.sides((a, b, c)))
            asked = [(0, 0, -1, 0, 0, 1), (0, -1, -1, 0, 0, 0), (-1, -2, -1, 0, 0, 0), (-3, -3, -1, -1, 0, -1)]
            self.assertEqual(more, asked[open_sides], deed)
        else:
            self.hold_drawn(skin, deed, behind)

    def hold_drawn(self, skin, deed, behind):
        """A corner goes, and of each triangle that goes two sides become one, or go with a corner of its own."""
        a, b = deed[1]
        thirds = [each for each in (skin.third(a, b), skin.third(b, a)) if each is not None]
        tips = [each for each in thirds if each not in behind.corners()]
        more = added(skin, behind)
        self.assertEqual((more[2], more[4]), (-len(thirds), 0), deed)
        if more[3] == 0 and more[5] == 0:
            asked = (-1 - len(tips), -1 - len(thirds) - len(tips), -len(thirds), 0, 0, 0)
            self.assertEqual(more, asked, deed)


class LeastWordsTest(unittest.TestCase):

    def test_each_least_word_wound_on_is_alike_with_the_piece(self):
        for triples in small_skins():
            skin = Skin(triples)
            for piece in pieces(skin):
                word, caps, corners = least(skin, piece[0])
                own = Skin(slowdeeds.piece_triples(triples, piece[0]))
                there = wound_on(word, caps)
                told, pairs = paired(there, own)
                self.assertEqual(told, "alike")
                names = dict(pairs)
                become = [tuple(names[c] for c in triple) for triple in there.triangles()]
                self.assertEqual(shapes.slow_triangles(become), own.triangles())
                self.assertEqual(least(there, 0)[:2], (word, caps))


class RimsClosedTest(unittest.TestCase):

    def test_the_word_stays_and_its_caps_go_one_by_one(self):
        closed = 0
        for triples in small_skins() + [shapes.pierced(shapes.torus(), 5)]:
            side = triples[len(triples) // 2][:2]
            kept = Kept(Skin(triples), side)
            word, caps, corners = kept.wound()
            while rims(kept.skin()):
                rim = rims(kept.skin())[-1]
                fresh = kept.skin().corners()[-1] + 1
                stretch, left = kept.do(("close", (rim[0], rim[1]), fresh))
                self.assertEqual(stretch, (len(word), 0, []))
                self.assertEqual(kept.wound()[0], word)
                if rim[0] in corners:
                    gone = [cap for cap in caps if cap not in left]
                    self.assertEqual((len(gone), len(left)), (1, len(caps) - 1))
                    self.assertEqual(kept.wound()[2][gone[0]], fresh)
                    closed += 1
                self.assertLessEqual(set(left), set(caps))
                caps = left
            self.assertEqual(caps, [])
        self.assertGreater(closed, 30)


class ThereAndBackTest(unittest.TestCase):

    def hold(self, word, caps):
        self.assertEqual(read_word(show_word(word)), word)
        self.assertEqual(read_bits(bits_of(word, caps)), (word, caps))
        if not any(samples.is_join(letter) for letter in word):
            self.assertEqual(placed(plain(word)), word)

    def test_a_skin_through_texts_signs_and_bits(self):
        for name, triples in shapes.skins():
            skin = read_skin(show_skin(Skin(triples)))
            self.assertEqual(skin.triangles(), shapes.slow_triangles(triples))
            for piece in pieces(skin)[:4]:
                own = slowdeeds.piece_triples(triples, piece[0])
                word, caps, corners = wound_off(skin, own[0][:2])
                self.hold(word, caps)
                read = read_bits(bits_of(word, caps))
                there = read_skin(show_skin(wound_on(*read)))
                named = [tuple(corners[number] for number in triple) for triple in there.triangles()]
                self.assertEqual(shapes.slow_triangles(named), shapes.slow_triangles(own))

    def test_each_side_of_a_few_skins(self):
        for triples in (shapes.torus(), shapes.STRIP, shapes.sleeve(3), shapes.rings(2)[1:]):
            for side in shapes.all_sides(triples):
                word, caps, corners = wound_off(Skin(triples), side)
                self.hold(word, caps)

    def test_behind_deeds(self):
        kept = Kept(Skin(shapes.torus()[1:]), (0, 3))
        for deed in (("in", (0, 3), 20), ("close", (1, 0), 21), ("out", (0, 20)), ("on", (20, 0), 22)):
            kept.do(deed)
            word, caps, corners = kept.wound()
            self.hold(word, caps)
            self.assertEqual(paired(wound_on(word, caps), kept.skin())[0], "alike")


if __name__ == "__main__":
    unittest.main()
