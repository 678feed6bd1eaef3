"""Point 6: a skin's text, written and read."""

import random
import unittest

import shapes
from shapestring.errors import NoSkin, NoText, TooMany
from shapestring.skins import Skin
from shapestring.skintexts import read_skin, show_skin

BIG = 10 ** 60 - 1

NO_TEXTS = [
    # no text at all
    None, True, False, 0, 12, 1.5, b"", b"0 1 2", [], ["0 1 2"], [(0, 1, 2)], (), (0, 1, 2), {}, {"0 1 2"},
    object(), str, Skin([]), Skin([(0, 1, 2)]),
    # noughts ahead
    "00 1 2", "0 01 2", "0 1 02", "0 1 2; 0 2 03", "000 1 2", "0 1 00", "0 1 2; 00 2 3",
    # blanks too many or too few, or at the ends
    " ", "  ", " 0 1 2", "0 1 2 ", "0  1 2", "0 1  2", "0 12", "01 2", "012", "0 1 2;0 2 3", "0 1 2;  0 2 3",
    "0 1 2 ; 0 2 3", "0 1 2 ;0 2 3", "0 1 2 0 2 3", "0 1 2; 0 2 3 ", " 0 1 2; 0 2 3", "0 1 2  0 2 3",
    # line feeds and tabs
    "\n", "\t", "0 1 2\n", "\n0 1 2", "0\t1\t2", "0\n1\n2", "0 1 2;\n0 2 3", "0 1 2;\t0 2 3", "0 1 2\n; 0 2 3",
    "0 1\n 2", "0 1 2\n0 2 3", "0 1 2; 0 2 3\n", "0 1 2\t", "0 1\t2",
    # parts too many
    ";", "; ", " ;", ";;", "; ; ", "0 1 2;", "0 1 2; ", ";0 1 2", "; 0 1 2", "0 1 2; ; 0 2 3", "0 1 2;; 0 2 3",
    "0 1 2; 0 2 3;", "0 1 2; 0 2 3; ",
    # parts of other than three corners
    "0", "0 1", "0 1 2 3", "0 1 2; 0", "0 1 2; 0 2", "0 1 2; 0 2 3 4", "0; 1; 2", "0 1; 2", "0 1 2 3; 0 1 2",
    # signs that are no figures
    "a", "a b c", "0 1 x", "0 1 -2", "-0 1 2", "+0 1 2", "0 1 +2", "0 1 2.0", "0 1 2.", "0 1 1e3", "0 1 0x2",
    "0 1 1_0", "0, 1, 2", "0,1,2", "(0, 1, 2)", "(0 1 2)", "[0 1 2]", "0 1 2, 0 2 3", "0 1 2: 0 2 3", "0 1 2.",
    "0 1 2; 0 2 three", "0 1 '2'", '"0 1 2"', "0 1 ~", "0 1 !", "0 1 2; -", "None", "True 2 3",
]


def refusal(text):
    """What read_skin refuses the text with, or None."""
    try:
        read_skin(text)
    except (NoText, TooMany, NoSkin) as e:
        return e
    return None


class ShowTest(unittest.TestCase):

    def test_the_empty_skin(self):
        self.assertEqual(show_skin(Skin([])), "")

    def test_one_triangle(self):
        self.assertEqual(show_skin(Skin([(7, 2, 4)])), "2 4 7")
        self.assertEqual(show_skin(Skin([(7, 4, 2)])), "2 7 4")

    def test_several_triangles(self):
        self.assertEqual(show_skin(Skin([(0, 1, 2), (0, 2, 3)])), "0 1 2; 0 2 3")
        self.assertEqual(show_skin(Skin([(3, 0, 2), (2, 0, 1)])), "0 1 2; 0 2 3")
        self.assertEqual(show_skin(Skin(shapes.TETRAHEDRON)), "0 1 2; 0 2 3; 0 3 1; 1 3 2")

    def test_triangles_stand_by_their_numbers(self):
        self.assertEqual(show_skin(Skin([(10, 11, 12), (9, 20, 21)])), "9 20 21; 10 11 12")

    def test_corners_of_sixty_figures(self):
        self.assertEqual(show_skin(Skin([(BIG, 0, 1)])), "0 1 " + "9" * 60)

    def test_the_skin_is_not_changed(self):
        skin = Skin(shapes.TETRAHEDRON)
        self.assertEqual(show_skin(skin), show_skin(skin))
        self.assertEqual(skin.triangles(), shapes.slow_triangles(shapes.TETRAHEDRON))


class ReadTest(unittest.TestCase):

    def test_the_empty_text(self):
        self.assertEqual(read_skin("").triangles(), [])

    def test_a_skin_is_told(self):
        skin = read_skin("0 1 2; 0 2 3")
        self.assertIsInstance(skin, Skin)
        self.assertEqual(skin.triangles(), [(0, 1, 2), (0, 2, 3)])
        self.assertEqual(skin.third(2, 3), 0)

    def test_any_order_and_begun_at_any_corner(self):
        for text in ("0 2 3; 0 1 2", "2 0 1; 3 0 2", "1 2 0; 2 3 0", "2 3 0; 2 0 1"):
            self.assertEqual(show_skin(read_skin(text)), "0 1 2; 0 2 3")

    def test_noughts_that_are_not_ahead(self):
        self.assertEqual(read_skin("0 10 100").triangles(), [(0, 10, 100)])

    def test_corners_of_sixty_figures(self):
        self.assertEqual(read_skin("9" * 60 + " 1 2").corners(), [1, 2, BIG])

    def test_written_and_read_again(self):
        chance = random.Random(6)
        for triples in ([], [(3, 1, 2)], shapes.STRIP, shapes.TETRAHEDRON, shapes.torus(), shapes.spindle(100)):
            text = show_skin(Skin(triples))
            self.assertEqual(show_skin(read_skin(text)), text)
            others = [shapes.turned(triple, chance.randrange(3)) for triple in triples]
            chance.shuffle(others)
            again = "; ".join(" ".join(str(c) for c in triple) for triple in others)
            self.assertEqual(read_skin(again).triangles(), Skin(triples).triangles())


class RefusedTest(unittest.TestCase):

    def test_what_is_no_such_text(self):
        for text in NO_TEXTS:
            with self.subTest(text=text):
                self.assertIsInstance(refusal(text), NoText)

    def test_all_short_texts(self):
        """Of all texts of five of these signs just those of three corners are read."""
        signs = "01 ;\n"
        read = []
        for number in range(len(signs) ** 5):
            text = "".join(signs[number // len(signs) ** k % len(signs)] for k in range(5))
            if not isinstance(refusal(text), NoText):
                read.append(text)
        asked = [f"{a} {b} {c}" for a in "01" for b in "01" for c in "01"]
        self.assertEqual(sorted(read), asked)

    def test_figures_of_other_scripts(self):
        for sign in ("\u00b2", "\u0663", "\uff12", "\u2162"):
            self.assertIsInstance(refusal("0 1 " + sign), NoText)

    def test_no_text_goes_ahead_of_too_many(self):
        self.assertIsInstance(refusal("; ".join(["0 1 2"] * 201 + ["0 1"])), NoText)
        self.assertIsInstance(refusal("; ".join(["0 1 2"] * 201) + " "), NoText)

    def test_no_text_goes_ahead_of_no_skin(self):
        self.assertIsInstance(refusal("0 1 2; 0 1 2; 0 1"), NoText)
        self.assertIsInstance(refusal("0 0 1; 0 01 2"), NoText)

    def test_too_many(self):
        text = "; ".join(" ".join(str(c) for c in triple) for triple in shapes.apart(200))
        self.assertEqual(len(read_skin(text).triangles()), 200)
        self.assertIsInstance(refusal(text + "; 900 901 902"), TooMany)
        self.assertIsInstance(refusal("; ".join(["0 0 0"] * 201)), TooMany)
        self.assertEqual(refusal("; ".join(["0 0 0"] * 200)).fault, ("triple", 0))

    def test_no_skin(self):
        self.assertEqual(refusal("0 0 1").fault, ("triple", 0))
        self.assertEqual(refusal("0 1 2; 3 4 3").fault, ("triple", 1))
        self.assertEqual(refusal("0 1 2; 3 0 1").fault, ("side", 1, (0, 1)))
        self.assertEqual(refusal("0 1 2; 0 1 2").fault, ("side", 1, (0, 1)))
        self.assertEqual(refusal("0 1 2; 0 3 4").fault, ("round", 0))
        self.assertEqual(refusal("0 1 2; 0 1 3; 5 5 5").fault, ("triple", 2))


if __name__ == "__main__":
    unittest.main()
