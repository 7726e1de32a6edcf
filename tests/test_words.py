"""Point 26 (ratios and shapes as texts), and point 2 for it."""

import copy
import unittest
from fractions import Fraction

from checks import Drawn, as_ratio, box, check_own, check_ratio, check_ring, point, ring_of, spoil
from coverfill.changes import moved
from coverfill.cuts import cut_shape
from coverfill.errors import NoText
from coverfill.words import read_ratio, read_shape, show_ratio, show_shape
from patterns import ratio_by_pattern, shape_by_pattern

THIRTY = "1" + "0" * 28 + "7"
THIRTY_ONE = "1" + "0" * 29 + "7"
NINES = "9" * 30
LONG = "1" + "0" * 3998 + "7"

# Texts and the ratios that they write.
RATIOS = (("0", (0, 1)), ("1", (1, 1)), ("-1", (-1, 1)), ("10", (10, 1)), ("-100", (-100, 1)), ("255", (255, 1)),
          ("1/2", (1, 2)), ("-1/2", (-1, 2)), ("3/2", (3, 2)), ("-30/7", (-30, 7)), ("7/30", (7, 30)),
          ("10/9", (10, 9)), (THIRTY, (int(THIRTY), 1)), ("-" + NINES, (-int(NINES), 1)),
          (f"1/{NINES}", (1, int(NINES))), (f"-{NINES}/{THIRTY}", (-int(NINES), int(THIRTY))),
          (f"{THIRTY}/2", (int(THIRTY), 2)))

# Texts that write no ratio, by the sort of fault.
NO_RATIOS = (
    # Without signs, and signs alone.
    "", "-", "/", "--", "//", "-/", "/-", ".",
    # Not in lowest terms, or with a bottom that is not written.
    "2/4", "-2/4", "3/1", "-3/1", "0/5", "0/1", "0/2", "1/1", "6/3", "4/6", "-10/4", f"{NINES}/3",
    # Bottoms that are none.
    "1/0", "0/0", "-1/0", "1/-2", "-1/-2", "1/+2", "1/", "/2", "-/2", "1//2", "1/2/3", "1/2/", "/1/2", "1/-", "1/02",
    "1/00", "1/2-", "3/-1", "1/-0",
    # Signs ahead of it, noughts ahead of figures.
    "-0", "+1", "+0", "--1", "-+1", "1-", "1+", "01", "00", "-01", "-00", "007", "01/2", "-0/5", "-0/1", "+1/2",
    # Blanks and row's ends.
    " ", "  ", " 1", "1 ", "- 1", "1 /2", "1/ 2", " 1/2", "1/2 ", "1 2", "1\n", "\n1", "1/2\n", "\t1", "1\t", "1\u00a0",
    # More than thirty figures.
    THIRTY_ONE, "-" + THIRTY_ONE, f"1/{THIRTY_ONE}", f"{THIRTY_ONE}/2", f"-{THIRTY_ONE}/{THIRTY}", "1" * 31,
    "0" * 30, "1" * 5000, f"1/{'1' * 5000}", "-" + "1" * 5000,
    # Other figures and other signs than there are.
    "\u0661", "\uff11", "\u00b2", "\u0967/\u0968", "1/\u0662", "\u22121", "1\u20442", "\u00bd", "1_0", "1_000", "0x1",
    "1e2", "1.5", "1.0", "1,5", "a", "one", "None", "1a", "a1", "1;", "(1, 2)", "1:2", "I", "O", "l",
)

# Texts and the shapes that they write.
SHAPES = (("", []), ("0,0", [ring_of((0, 0))]), ("1/2,-3", [ring_of(("1/2", -3))]),
          ("0,0 4,0 4,3/2; 1,1 1,2 2,1", [ring_of((0, 0), (4, 0), (4, "3/2")), ring_of((1, 1), (1, 2), (2, 1))]),
          ("0,0; 0,0; 0,0", [ring_of((0, 0))] * 3), ("1,2 1,2 1,2", [ring_of((1, 2), (1, 2), (1, 2))]),
          ("-1/3,5/7 -2,0; 0,-1", [ring_of(("-1/3", "5/7"), (-2, 0)), ring_of((0, -1))]),
          (f"{NINES},-{NINES} 1/{NINES},{THIRTY}", [ring_of((NINES, "-" + NINES), (Fraction(1, int(NINES)), THIRTY))]))

# Texts that write no shape, by the sort of fault.
NO_SHAPES = (
    # Blanks more or fewer.
    " ", "  ", " 0,0", "0,0 ", "0,0  1,1", "0, 0", "0 ,0", "0 , 0", "0,01,1", "0,0;1,1", "0,0 ;1,1", "0,0 ; 1,1",
    "0,0;  1,1", "0,0  ; 1,1", "0,0\n1,1", "0,0\t1,1", "0,0;\n1,1", "0,0;\u00a01,1", "0,0\n", "\n", "\n0,0",
    # Commas more or fewer, and points of one number or three.
    ",", "0", "0,", ",0", "0,,0", ",0,0", "0,0,", "0,0,0", "0 0", "0,0 1", "1 0,0", "0,0 1,1,1", "0,0,1,1", "0,0 ,",
    "0,0, 1,1", "0,0 ,1,1", "0;0", "0.0", "0/0",
    # Semicolons more or fewer, at the ends too, and rings without points.
    ";", "; ", " ;", ";;", "; ; ", "0,0;", "0,0; ", "; 0,0", ";0,0", "0,0;; 1,1", "0,0; ; 1,1", "0,0 ;", "0,0; 1,1;",
    "0,0; 1,1; ", "; 0,0; 1,1", "0,0; ; ", "; ; 0,0",
    # Numbers that are no ratios, in each place.
    "2/4,0", "0,2/4", "3/1,0", "0,3/1", "0/5,0", "1/0,0", "0,1/0", "-0,0", "0,-0", "+1,0", "0,+1", "01,0", "0,01",
    "1/-2,0", "0,1/-2", f"{THIRTY_ONE},0", f"0,{THIRTY_ONE}", f"0,1/{THIRTY_ONE}", "\u0661,0", "0,\uff11", "a,0", "0,a",
    "0,0 1,1 2/4,0", "0,0; 1,1; 0,1/0", "0,0 1,1; -0,0; 2,2", "none", "[]", "()", "(0,0)", "[0,0]", "0,0 and 1,1",
)


def written(number):
    """A number as Python's own fractions write it."""
    return str(Fraction(number))


def written_shape(shape):
    rings = [" ".join(",".join(written(Fraction(*part)) for part in one) for one in ring) for ring in shape]
    return "; ".join(rings)


def drawn_numbers(drawn, count):
    for _ in range(count):
        figures, others = drawn.chance.randint(1, 30), drawn.chance.choice((1, 1, 2, 30))
        top = drawn.chance.randint(-10 ** figures + 1, 10 ** figures - 1)
        yield Fraction(top, drawn.chance.randint(1, 10 ** others - 1))


def drawn_shape(drawn, rings, points):
    numbers = list(drawn_numbers(drawn, 12)) + [Fraction(0)]
    return [[point(drawn.chance.choice(numbers), drawn.chance.choice(numbers))
             for _ in range(drawn.chance.randint(1, points))] for _ in range(drawn.chance.randint(0, rings))]


class Words(unittest.TestCase):
    def check_no_ratio(self, text):
        with self.assertRaises(NoText, msg=repr(text[:80])):
            read_ratio(text)

    def check_no_shape(self, text):
        with self.assertRaises(NoText, msg=repr(text[:80])):
            read_shape(text)

    def check_shape(self, told, expected):
        self.assertIs(type(told), list)
        for ring in told:
            check_ring(self, ring)
        self.assertEqual(told, expected)


class Ratios(Words):
    def test_written(self):
        for text, ratio in RATIOS:
            self.assertIs(type(show_ratio(ratio)), str)
            self.assertEqual(show_ratio(ratio), text)

    def test_read(self):
        for text, ratio in RATIOS:
            check_ratio(self, read_ratio(text), Fraction(*ratio))

    def test_either_way_round(self):
        for number in drawn_numbers(Drawn(151), 400):
            text = show_ratio(as_ratio(number))
            self.assertEqual(text, written(number))
            check_ratio(self, read_ratio(text), number)
            self.assertEqual(show_ratio(read_ratio(text)), text)

    def test_refused_and_what_is_read_behind(self):
        for text in NO_RATIOS:
            self.assertIsNone(ratio_by_pattern(text), text)
            self.check_no_ratio(text)
            self.assertEqual(read_ratio("3/2"), (3, 2))

    def test_thirty_figures_are_read_and_longer_ones_only_written(self):
        for text in ("9" * 30, "-" + "9" * 30, "1/" + "9" * 30, "-1/" + "9" * 30):
            self.assertEqual(show_ratio(read_ratio(text)), text)
        for text in (THIRTY_ONE, "-" + THIRTY_ONE, "1/" + THIRTY_ONE, LONG, "-" + LONG, "1/" + LONG, "-7/" + LONG,
                     f"{LONG}/{THIRTY_ONE}"):
            number = Fraction(text)
            self.assertEqual(written(number), text)
            self.assertEqual(show_ratio(as_ratio(number)), text)
            self.check_no_ratio(text)

    def test_of_four_thousand_figures_above_and_below(self):
        top, bottom = 10 ** 3999 + 1, 10 ** 3999
        self.assertEqual(show_ratio((top, bottom)), f"{top}/{bottom}")
        self.assertEqual(show_ratio((-bottom, top)), f"-{bottom}/{top}")

    def test_drawn_texts_of_a_ratios_signs(self):
        drawn, read = Drawn(152), 0
        for _ in range(6000):
            text = "".join(drawn.chance.choice("0123--/+ 4") for _ in range(drawn.chance.randint(0, 5)))
            expected = ratio_by_pattern(text)
            if expected is None:
                self.check_no_ratio(text)
            else:
                read += 1
                self.assertEqual(read_ratio(text), expected)
                self.assertEqual(show_ratio(expected), text)
        self.assertGreater(read, 400)


class Shapes(Words):
    def test_written(self):
        for text, shape in SHAPES:
            self.assertIs(type(show_shape(shape)), str)
            self.assertEqual(show_shape(shape), text)

    def test_read(self):
        for text, shape in SHAPES:
            self.check_shape(read_shape(text), shape)

    def test_either_way_round(self):
        drawn = Drawn(153)
        for _ in range(120):
            shape = drawn_shape(drawn, 12, drawn.chance.choice((1, 3, 40)))
            text = show_shape(shape)
            self.assertEqual(text, written_shape(shape))
            self.check_shape(read_shape(text), shape)

    def test_refused_and_what_is_read_behind(self):
        for text in NO_SHAPES:
            self.assertIsNone(shape_by_pattern(text), text)
            self.check_no_shape(text)
            self.check_shape(read_shape("0,0 1/2,3"), [ring_of((0, 0), ("1/2", 3))])
            self.check_shape(read_shape(""), [])

    def test_each_text_that_is_no_ratio_writes_no_point_with_another(self):
        for text in NO_RATIOS:
            self.check_no_shape(f"{text},0")
            self.check_no_shape(f"1/2,{text}")
            self.check_no_shape(f"1,1; 0,0 3,{text}")

    def test_forty_points_are_read(self):
        for rings in (1, 2, 12):
            ring = [(k, k % 3) for k in range(40)]
            text = "; ".join([" ".join(f"{x},{y}" for x, y in ring)] * rings)
            self.check_shape(read_shape(text), [ring_of(*ring)] * rings)

    def test_forty_one_points_are_refused_in_each_ring(self):
        many = " ".join(["0,1"] * 41)
        self.check_no_shape(many)
        self.check_no_shape(f"{many}; 0,0")
        self.check_no_shape(f"0,0; {many}")
        self.check_no_shape(f"0,0; {many}; 0,0")
        self.check_no_shape("; ".join([many] * 12))

    def test_twelve_rings_are_read_and_thirteen_refused(self):
        self.check_shape(read_shape("; ".join(["0,1"] * 12)), [ring_of((0, 1))] * 12)
        for count in (13, 14, 24, 100):
            self.check_no_shape("; ".join(["0,1"] * count))

    def test_longer_shapes_are_written(self):
        for shape in ([box(0, 1, 0, 1)] * 13, [ring_of(*[(k, 1) for k in range(41)])], [ring_of((LONG, 0))],
                      [ring_of(*[(k, 1) for k in range(90)])] * 30):
            text = show_shape(shape)
            self.assertEqual(text, written_shape(shape))
            self.check_no_shape(text)

    def test_told_shapes_are_written_and_read(self):
        shape = read_shape("0,0 4,0 4,3/2; 1,1 1,2 2,1")
        for told in (moved(shape, (1, 3), (-2, 1)), cut_shape(shape, ((1, 1), (1, 1), (4, 1)))):
            self.check_shape(read_shape(show_shape(told)), told)

    def test_drawn_texts_of_a_shapes_signs(self):
        drawn, read = Drawn(154), 0
        parts = ("0", "1", "-2", "1/2", "0,0", "1,2", "3,-1/2", ",", " ", ";", "; ", " ", "; ", "2/4", ",")
        for _ in range(8000):
            text = "".join(drawn.chance.choice(parts) for _ in range(drawn.chance.randint(0, 6)))
            expected = shape_by_pattern(text)
            if expected is None:
                self.check_no_shape(text)
            else:
                read += 1
                self.check_shape(read_shape(text), expected)
                self.assertEqual(show_shape(expected), text)
        self.assertGreater(read, 300)

    def test_texts_with_one_sign_more_or_fewer_or_another(self):
        text = "0,0 4,0 4,3/2; 1,1 -1,2 2,1"
        changed = [text[:k] + text[k + 1:] for k in range(len(text))]
        for sign in " ,;/-+05a\n":
            changed += [text[:k] + sign + text[k:] for k in range(len(text) + 1)]
            changed += [text[:k] + sign + text[k + 1:] for k in range(len(text))]
        for one in changed:
            expected = shape_by_pattern(one)
            if expected is None:
                self.check_no_shape(one)
            else:
                self.check_shape(read_shape(one), expected)


class Own(Words):
    """Point 2."""

    def test_written_ones_stay(self):
        check_own(self, show_shape, [ring_of((0, 0), (1, "1/2")), ring_of((2, 3))])

    def test_read_lists_are_new(self):
        text = "0,0 4,0 4,3/2; 0,0 4,0 4,3/2"
        first, second = read_shape(text), read_shape(text)
        kept = copy.deepcopy(first)
        self.assertIsNot(first[0], first[1])
        spoil(first)
        self.assertEqual(second, kept)
        self.assertEqual(read_shape(text), kept)
        nothing = read_shape("")
        nothing.append([])
        self.assertEqual(read_shape(""), [])


if __name__ == "__main__":
    unittest.main()
