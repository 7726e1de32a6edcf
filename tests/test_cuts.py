"""Point 8 (heights over lines), point 9 (cut by a line), point 10 (the line against), point 11 (cut to a window)."""

import unittest
from fractions import Fraction

from checks import (Drawn, area_by_strips, as_ratio, box, check_lists_apart, check_own, check_point, check_ratio,
                    check_ring, exact_height, exact_point, line_of, point, ring_of)
from coverfill.cuts import against, cut, cut_shape, height_over, window, window_shape
from coverfill.rings import area, shape_area

THIRTY = 10 ** 29 + 33
SQUARE = box(0, 4, 0, 4)
FORTY = ring_of(*[(Fraction(k * k - 7, k + 1), Fraction(k * 11 % 40 - 20, 3)) for k in range(40)])
# Four bows that cross one another and themselves.
CROSSING = ring_of((0, 0), (6, 5), (6, 0), (0, 5), (3, -2), ("7/2", 8))
UPRIGHT = line_of(1, 0, 2)
LEVEL = line_of(0, 1, 1)
SLANTING = line_of(1, 1, 4)
NO_LINES = (line_of(0, 0, 1), line_of(0, 0, "1/3"), line_of(0, 0, 0))
ALL_OVER = line_of(0, 0, -1)


def cut_by_words(ring, line):
    """The words of point 9, on numbers of Python's own."""
    taken = []
    for k, here in enumerate(ring):
        there = ring[(k + 1) % len(ring)]
        one, other = exact_height(line, here), exact_height(line, there)
        if one <= 0:
            taken.append(here)
        if one * other < 0:
            (x, y), (across, up) = exact_point(here), exact_point(there)
            taken.append(point((x * other - across * one) / (other - one), (y * other - up * one) / (other - one)))
    return taken


class Heights(unittest.TestCase):
    def check(self, line, pair, expected):
        check_ratio(self, height_over(line_of(*line), point(*pair)), Fraction(expected))

    def test_over_a_slanting_line(self):
        self.check((1, 2, 3), (4, 5), 11)
        self.check((1, 2, 3), (1, 1), 0)
        self.check((1, 2, 3), (-4, 1), -5)
        self.check((-2, 3, 1), (1, "1/2"), "-3/2")

    def test_over_a_level_line(self):
        self.check((0, 1, 2), (77, 5), 3)
        self.check((0, 1, 2), (-77, 2), 0)
        self.check((0, 1, 2), (77, 1), -1)
        self.check((0, -1, 2), (77, 1), -3)

    def test_over_an_upright_line(self):
        self.check((1, 0, 2), (5, 77), 3)
        self.check((1, 0, 2), (2, -77), 0)
        self.check((1, 0, 2), (1, 77), -1)
        self.check((-1, 0, -2), (1, 77), 1)

    def test_where_a_and_b_are_nought(self):
        for pair in ((0, 0), (5, -7), ("1/2", THIRTY)):
            self.check((0, 0, 3), pair, -3)
            self.check((0, 0, "-1/2"), pair, "1/2")
            self.check((0, 0, 0), pair, 0)

    def test_in_lowest_terms(self):
        self.assertEqual(height_over(line_of("1/2", "1/3", "1/6"), point("1/2", "1/4")), (1, 6))
        self.assertEqual(height_over(line_of("1/2", "1/3", "5/6"), point(1, 1)), (0, 1))
        self.assertEqual(height_over(line_of("1/6", "1/6", 0), point(1, 2)), (1, 2))

    def test_with_thirty_figures(self):
        line = line_of(Fraction(THIRTY, 7), Fraction(-3, THIRTY), Fraction(THIRTY, THIRTY + 1))
        far = point(Fraction(1, THIRTY + 2), -THIRTY)
        check_ratio(self, height_over(line, far), exact_height(line, far))

    def test_many(self):
        drawn = Drawn(8)
        for _ in range(300):
            line, here = drawn.line(-9, 9), drawn.point(-9, 9)
            check_ratio(self, height_over(line, here), exact_height(line, here))


class Cut(unittest.TestCase):
    def check(self, ring, line, expected):
        told = cut(ring, line)
        check_ring(self, told)
        self.assertEqual(told, expected)

    def test_a_ring_without_points(self):
        for line in (UPRIGHT, SLANTING, ALL_OVER) + NO_LINES:
            self.check([], line, [])

    def test_a_ring_of_one_point(self):
        self.check(ring_of((1, 1)), UPRIGHT, ring_of((1, 1)))
        self.check(ring_of((2, 1)), UPRIGHT, ring_of((2, 1)))
        self.check(ring_of((3, 1)), UPRIGHT, [])

    def test_a_ring_of_two_points_meets_the_line_twice(self):
        self.check(ring_of((1, 0), (3, 1)), UPRIGHT, ring_of((1, 0), (2, "1/2"), (2, "1/2")))
        self.check(ring_of((3, 1), (1, 0)), UPRIGHT, ring_of((2, "1/2"), (1, 0), (2, "1/2")))
        self.check(ring_of((0, 0), (1, 1)), UPRIGHT, ring_of((0, 0), (1, 1)))
        self.check(ring_of((3, 0), (4, 1)), UPRIGHT, [])

    def test_wholly_beneath_stays_as_it_is(self):
        self.check(SQUARE, line_of(1, 0, 5), SQUARE)
        self.check(CROSSING, line_of(0, -1, 3), CROSSING)

    def test_wholly_over_nothing_is_left(self):
        self.check(SQUARE, line_of(1, 0, -1), [])
        self.check(CROSSING, line_of(0, -1, -9), [])

    def test_on_the_line_each_is_taken_once(self):
        ring = ring_of((2, 0), (2, 5), (2, 3))
        self.check(ring, UPRIGHT, ring)
        self.check(ring, against(UPRIGHT), ring)

    def test_a_side_on_the_line(self):
        self.check(SQUARE, line_of(1, 0, 0), ring_of((0, 0), (0, 4)))
        self.check(SQUARE, line_of(1, 0, 4), SQUARE)

    def test_through_the_middle_in_the_order_of_the_ring(self):
        self.check(SQUARE, UPRIGHT, ring_of((0, 0), (2, 0), (2, 4), (0, 4)))
        self.check(SQUARE, against(UPRIGHT), ring_of((2, 0), (4, 0), (4, 4), (2, 4)))
        self.check(SQUARE, LEVEL, ring_of((0, 0), (4, 0), (4, 1), (0, 1)))
        self.check(SQUARE, against(LEVEL), ring_of((4, 1), (4, 4), (0, 4), (0, 1)))

    def test_points_on_the_line_between_one_over_and_one_beneath(self):
        self.check(SQUARE, SLANTING, ring_of((0, 0), (4, 0), (0, 4)))
        self.check(SQUARE, against(SLANTING), ring_of((4, 0), (4, 4), (0, 4)))
        touching = ring_of((0, 0), (2, 2), (0, 4))
        self.check(touching, UPRIGHT, touching)
        self.check(touching, against(UPRIGHT), ring_of((2, 2)))

    def test_crossing_the_line_several_times(self):
        teeth = ring_of((0, 0), (1, 3), (2, 0), (3, 3), (4, 0))
        self.check(teeth, LEVEL, ring_of((0, 0), ("1/3", 1), ("5/3", 1), (2, 0), ("7/3", 1), ("11/3", 1), (4, 0)))
        self.check(teeth, against(LEVEL), ring_of(("1/3", 1), (1, 3), ("5/3", 1), ("7/3", 1), (3, 3), ("11/3", 1)))

    def test_the_side_from_the_last_point_to_the_first(self):
        self.check(ring_of((3, 0), (3, 1), (0, 1)), UPRIGHT, ring_of((2, 1), (0, 1), (2, "1/3")))

    def test_points_alike(self):
        ring = ring_of((0, 0), (0, 0), (4, 2), (4, 2), (2, 3), (2, 3))
        self.check(ring, UPRIGHT, ring_of((0, 0), (0, 0), (2, 1), (2, 3), (2, 3)))
        self.check(ring_of((3, 3), (3, 3)), UPRIGHT, [])

    def test_meeting_points_that_are_no_whole_numbers(self):
        self.check(ring_of((0, 0), (5, 1), (0, 2)), line_of(2, 3, 5),
                   ring_of((0, 0), ("25/13", "5/13"), (0, "5/3")))
        self.check(ring_of(("1/2", "1/3"), ("7/2", "4/5"), ("1/2", "4/5")), line_of(1, 0, "3/2"),
                   ring_of(("1/2", "1/3"), ("3/2", "22/45"), ("3/2", "4/5"), ("1/2", "4/5")))

    def test_where_a_and_b_are_nought_all_or_nothing(self):
        for ring in ([], SQUARE[:1], SQUARE[:2], SQUARE, FORTY, CROSSING):
            for line in NO_LINES:
                self.check(ring, line, ring)
            self.check(ring, ALL_OVER, [])
            self.check(ring, line_of(0, 0, "-1/9"), [])

    def test_forty_points(self):
        for line in (UPRIGHT, LEVEL, SLANTING, line_of("2/3", -1, "5/7")):
            for side in (line, against(line)):
                self.check(FORTY, side, cut_by_words(FORTY, side))
                self.assertGreater(len(cut(FORTY, side)), 2)

    def test_with_thirty_figures(self):
        ring = ring_of((-THIRTY, 0), (THIRTY, Fraction(1, THIRTY)), (7, Fraction(THIRTY, THIRTY + 2)))
        line = line_of(Fraction(1, THIRTY), 3, Fraction(2, THIRTY + 1))
        self.check(ring, line, cut_by_words(ring, line))

    def test_many(self):
        drawn = Drawn(9)
        for _ in range(300):
            ring, line = drawn.ring(9, -4, 4), drawn.line(-4, 4)
            self.check(ring, line, cut_by_words(ring, line))

    def test_nothing_that_is_told_lies_over_the_line(self):
        drawn = Drawn(90)
        for _ in range(100):
            ring, line = drawn.ring(9, -4, 4), drawn.line(-4, 4)
            for here in cut(ring, line):
                self.assertLessEqual(exact_height(line, here), 0)

    def test_lists_are_the_askers_own(self):
        for line in (UPRIGHT, SLANTING, line_of(1, 0, 9), line_of(1, 0, -9), ALL_OVER, NO_LINES[0]):
            for ring in ([], SQUARE[:1], SQUARE, FORTY):
                check_own(self, cut, list(ring), line)
                ring = list(ring)
                self.assertIsNot(cut(ring, line), ring)


class CutShapes(unittest.TestCase):
    def check(self, shape, line, expected):
        told = cut_shape(shape, line)
        self.assertIs(type(told), list)
        for ring in told:
            check_ring(self, ring)
        self.assertEqual(told, expected)
        check_lists_apart(self, told)

    def test_of_no_ring(self):
        self.check([], UPRIGHT, [])
        self.check([], ALL_OVER, [])

    def test_of_several_rings_in_order(self):
        self.check([SQUARE, box(1, 3, 5, 6), SQUARE[:1]], UPRIGHT,
                   [box(0, 2, 0, 4), box(1, 2, 5, 6), SQUARE[:1]])

    def test_of_a_ring_twice(self):
        self.check([SQUARE, SQUARE], UPRIGHT, [box(0, 2, 0, 4)] * 2)
        self.check([SQUARE, SQUARE], line_of(1, 0, 9), [SQUARE, SQUARE])

    def test_rings_of_which_nothing_is_left_stay(self):
        self.check([box(3, 5, 0, 1), SQUARE, [], box(3, 5, 0, 1)], UPRIGHT, [[], box(0, 2, 0, 4), [], []])
        self.check([SQUARE, SQUARE], ALL_OVER, [[], []])

    def test_of_twenty_four_rings(self):
        shape = [FORTY[k:] + FORTY[:k] for k in range(24)]
        self.check(shape, SLANTING, [cut_by_words(ring, SLANTING) for ring in shape])

    def test_lists_are_the_askers_own(self):
        for line in (UPRIGHT, line_of(1, 0, 9), ALL_OVER):
            for shape in ([], [[]], [SQUARE], [SQUARE, FORTY, [], CROSSING]):
                check_own(self, cut_shape, [list(ring) for ring in shape], line)

    def test_a_ring_twice_is_told_as_two_lists(self):
        ring = list(SQUARE)
        told = cut_shape([ring, ring], line_of(1, 0, 9))
        told[0].append("more")
        self.assertEqual(told[1], SQUARE)
        self.assertEqual(ring, SQUARE)


class Against(unittest.TestCase):
    def test_told_by_hand(self):
        self.assertEqual(against(line_of(1, -2, "3/4")), line_of(-1, 2, "-3/4"))
        self.assertEqual(against(line_of(0, "5/2", 0)), line_of(0, "-5/2", 0))
        self.assertEqual(against(line_of(0, 0, 0)), line_of(0, 0, 0))
        self.assertEqual(against(line_of(THIRTY, 0, Fraction(-1, THIRTY))), line_of(-THIRTY, 0, Fraction(1, THIRTY)))

    def test_a_tuple_of_three_ratios(self):
        told = against(line_of(1, 0, "-1/2"))
        self.assertIs(type(told), tuple)
        self.assertEqual(len(told), 3)
        for part, expected in zip(told, (-1, 0, Fraction(1, 2))):
            check_ratio(self, part, expected)

    def test_against_that_one_is_the_line_again(self):
        drawn = Drawn(10)
        for line in [drawn.line(-9, 9) for _ in range(50)] + list(NO_LINES):
            self.assertEqual(against(against(line)), line)

    def test_heights_have_the_other_sign(self):
        drawn = Drawn(100)
        for _ in range(50):
            line, here = drawn.line(-9, 9), drawn.point(-9, 9)
            check_ratio(self, height_over(against(line), here), -exact_height(line, here))

    def check_areas(self, ring, line):
        one, other = area(cut(ring, line)), area(cut(ring, against(line)))
        check_ratio(self, as_ratio(Fraction(*one) + Fraction(*other)), area_by_strips(ring))

    def test_areas_come_to_the_rings(self):
        for ring in ([], SQUARE[:1], SQUARE[:2], SQUARE, SQUARE[::-1], FORTY, CROSSING):
            for line in (UPRIGHT, LEVEL, SLANTING, line_of("2/3", -1, "5/7"), line_of(1, 0, 0), line_of(1, 0, 99)):
                self.check_areas(ring, line)

    def test_areas_of_the_two_parts_told_by_hand(self):
        check_ratio(self, area(cut(SQUARE, line_of(1, 0, 1))), 4)
        check_ratio(self, area(cut(SQUARE, line_of(-1, 0, -1))), 12)
        check_ratio(self, area(cut(SQUARE, line_of(1, 1, 1))), Fraction(1, 2))
        check_ratio(self, area(cut(SQUARE, line_of(-1, -1, -1))), Fraction(31, 2))

    def test_areas_where_points_lie_on_the_line(self):
        for ring in (CROSSING, FORTY, CROSSING + SQUARE):
            for k in range(0, len(ring) - 2, 2):
                (x, y), (across, up) = exact_point(ring[k]), exact_point(ring[k + 2])
                a, b = up - y, x - across
                if a or b:
                    self.check_areas(ring, line_of(a, b, a * x + b * y))

    def test_areas_of_many(self):
        drawn = Drawn(110)
        for _ in range(200):
            self.check_areas(drawn.ring(10, -3, 3), drawn.line(-3, 3))


class Windows(unittest.TestCase):
    def check(self, ring, sides, expected):
        told = window(ring, *[as_ratio(side) for side in sides])
        check_ring(self, told)
        self.assertEqual(told, expected)

    def check_bounds(self, ring, sides):
        left, right, low, high = [Fraction(side) for side in sides]
        told = window(ring, *[as_ratio(side) for side in sides])
        for here in told:
            check_point(self, here)
            x, y = exact_point(here)
            self.assertTrue(left <= x <= right and low <= y <= high, (here, sides))
        return told

    def test_within(self):
        self.check(SQUARE, (-1, 5, -1, 5), SQUARE)
        self.check(SQUARE, (0, 4, 0, 4), SQUARE)
        self.check(CROSSING, (0, 6, -2, 8), CROSSING)

    def test_around(self):
        self.check(SQUARE, (1, 2, "1/2", 3), ring_of((2, "1/2"), (2, 3), (1, 3), (1, "1/2")))
        self.check(SQUARE[::-1], (1, 2, "1/2", 3), ring_of((2, 3), (2, "1/2"), (1, "1/2"), (1, 3)))

    def test_beside(self):
        for sides in ((5, 6, 0, 4), (-2, -1, 0, 4), (0, 4, 5, 6), (0, 4, -2, -1), (5, 6, 5, 6)):
            self.check(SQUARE, sides, [])

    def test_across_each_side(self):
        self.check(SQUARE, (1, 9, -9, 9), ring_of((1, 0), (4, 0), (4, 4), (1, 4)))
        self.check(SQUARE, (-9, 1, -9, 9), ring_of((0, 0), (1, 0), (1, 4), (0, 4)))
        self.check(SQUARE, (-9, 9, 1, 9), ring_of((4, 1), (4, 4), (0, 4), (0, 1)))
        self.check(SQUARE, (-9, 9, -9, 1), ring_of((0, 0), (4, 0), (4, 1), (0, 1)))

    def test_across_a_corner(self):
        self.check(SQUARE, (3, 6, 3, 6), ring_of((4, 3), (4, 4), (3, 4), (3, 3)))

    def test_a_slanting_ring(self):
        self.check(ring_of((0, -1), (3, 2), (0, 5)), (0, 2, 0, 4),
                   ring_of((1, 0), (2, 1), (2, 3), (1, 4), (0, 4), (0, 0)))

    def test_just_the_four_lines_in_their_order(self):
        drawn = Drawn(11)
        for _ in range(100):
            ring = drawn.ring(9, -3, 6)
            left, low = drawn.number(-2, 2), drawn.number(-2, 2)
            right, high = left + drawn.number(0, 3), low + drawn.number(0, 3)
            expected = ring
            for line in ((-1, 0, -left), (1, 0, right), (0, -1, -low), (0, 1, high)):
                expected = cut_by_words(expected, line_of(*line))
            self.check(ring, (left, right, low, high), expected)

    def test_a_ring_that_crosses_itself(self):
        bow = ring_of((0, 0), (2, 2), (2, 0), (0, 2))
        self.check(bow, (0, 2, 0, 1), ring_of((0, 0), (1, 1), (2, 1), (2, 0), (1, 1), (0, 1)))
        for sides in ((0, 3, 0, 3), ("1/2", "7/2", "1/3", 4), (2, 3, -5, 9), (-5, 9, 1, "4/3")):
            self.check_bounds(CROSSING, sides)
        self.assertEqual(area(window(bow, (0, 1), (1, 1), (0, 1), (2, 1))), (1, 1))
        self.assertEqual(area(window(bow, (1, 1), (2, 1), (0, 1), (2, 1))), (-1, 1))

    def test_left_and_right_or_low_and_high_alike(self):
        for sides in ((2, 2, 0, 4), (0, 4, 2, 2), (2, 2, 2, 2), (0, 0, 1, 3), (1, 3, 4, 4)):
            for ring in (SQUARE, CROSSING, FORTY):
                self.assertEqual(area(self.check_bounds(ring, sides)), (0, 1))
        self.check(SQUARE, (2, 2, 0, 4), ring_of((2, 0), (2, 4)))

    def test_of_none_one_and_two_points(self):
        self.check([], (0, 1, 0, 1), [])
        self.check(ring_of((1, 1)), (0, 1, 0, 1), ring_of((1, 1)))
        self.check(ring_of((1, "6/5")), (0, 1, 0, 1), [])
        self.assertEqual(len(self.check_bounds(ring_of((-1, -2), (3, 2)), (0, 1, -1, 0))), 4)

    def test_all_points_within_the_window(self):
        drawn = Drawn(12)
        for _ in range(100):
            left, low = drawn.number(-2, 2), drawn.number(-2, 2)
            sides = (left, left + drawn.number(0, 3), low, low + drawn.number(0, 3))
            self.check_bounds(drawn.ring(12, -3, 6), sides)
        self.check_bounds(FORTY, ("-1/2", 20, -9, "22/7"))

    def test_with_thirty_figures(self):
        far = ring_of((-THIRTY, -THIRTY), (THIRTY, -THIRTY), (THIRTY, THIRTY + 1))
        told = self.check_bounds(far, (Fraction(-1, THIRTY), 1, 0, Fraction(THIRTY, 3)))
        self.assertGreater(len(told), 2)

    def test_lists_are_the_askers_own(self):
        for sides in ((-9, 99, -99, 99), (0, 2, 0, 2), (200, 300, 0, 1)):
            for ring in ([], SQUARE, FORTY):
                check_own(self, window, list(ring), *[as_ratio(side) for side in sides])


class WindowShapes(unittest.TestCase):
    def check(self, shape, sides, expected):
        told = window_shape(shape, *[as_ratio(side) for side in sides])
        self.assertIs(type(told), list)
        for ring in told:
            check_ring(self, ring)
        self.assertEqual(told, expected)
        check_lists_apart(self, told)

    def test_of_no_ring(self):
        self.check([], (0, 1, 0, 1), [])

    def test_of_several_rings(self):
        hole = ring_of((1, 1), (1, 3), (3, 3), (3, 1))
        self.check([SQUARE, hole], (0, 2, 0, 2),
                   [box(0, 2, 0, 2), ring_of((1, 1), (1, 2), (2, 2), (2, 1))])
        self.assertEqual(shape_area(window_shape([SQUARE, hole], (0, 1), (2, 1), (0, 1), (2, 1))), (3, 1))

    def test_of_a_ring_twice(self):
        self.check([SQUARE, SQUARE], (-1, 5, -1, 5), [SQUARE, SQUARE])

    def test_of_a_ring_of_which_nothing_is_left(self):
        self.check([box(8, 9, 0, 1), SQUARE, []], (-1, 5, -1, 5), [[], SQUARE, []])
        self.check([box(8, 9, 0, 1)], (-1, 5, -1, 5), [[]])

    def test_lists_are_the_askers_own(self):
        for sides in ((-9, 99, -99, 99), (0, 2, 0, 2), (200, 300, 0, 1)):
            for shape in ([], [[]], [SQUARE, FORTY, []]):
                check_own(self, window_shape, [list(ring) for ring in shape], *[as_ratio(side) for side in sides])


if __name__ == "__main__":
    unittest.main()
