"""Point 6 (points, rings, sides) and point 7 (areas of rings and shapes)."""

import copy
import unittest
from fractions import Fraction

from checks import area_by_strips, check_ratio, point, ring_of
from coverfill.rings import area, shape_area, sides

THIRTY = 10 ** 29 + 33
SQUARE = ring_of((0, 0), (1, 0), (1, 1), (0, 1))
FORTY = ring_of(*[(Fraction(k * k - 7, k + 1), Fraction(k * 11 % 40 - 20, 3)) for k in range(40)])


def turned(ring):
    return ring[::-1]


class Sides(unittest.TestCase):
    def check_told(self, ring):
        told = sides(ring)
        self.assertIs(type(told), list)
        for side in told:
            self.assertIs(type(side), tuple)
            self.assertEqual(len(side), 2)
        return told

    def test_of_no_point(self):
        self.assertEqual(self.check_told([]), [])

    def test_of_one_point_from_it_to_itself(self):
        one = point("1/2", -3)
        self.assertEqual(self.check_told([one]), [(one, one)])

    def test_of_two_points_there_and_back(self):
        one, other = ring_of((0, 0), (2, "5/3"))
        self.assertEqual(self.check_told([one, other]), [(one, other), (other, one)])

    def test_of_several_in_order_and_the_last_back_to_the_first(self):
        a, b, c, d = ring_of((4, 1), (0, 0), ("-1/2", 7), (2, 2))
        self.assertEqual(self.check_told([a, b, c, d]), [(a, b), (b, c), (c, d), (d, a)])

    def test_of_points_that_are_alike(self):
        a, b = ring_of((1, 1), (2, 3))
        self.assertEqual(self.check_told([a, a]), [(a, a), (a, a)])
        self.assertEqual(self.check_told([a, b, b, a]), [(a, b), (b, b), (b, a), (a, a)])

    def test_of_forty_points(self):
        told = self.check_told(FORTY)
        self.assertEqual(len(told), 40)
        for k in range(40):
            self.assertEqual(told[k], (FORTY[k], FORTY[(k + 1) % 40]))

    def test_the_ring_handed_in_stays(self):
        for ring in ([], SQUARE[:1], SQUARE[:2], list(SQUARE), list(FORTY)):
            kept = copy.deepcopy(ring)
            sides(ring)
            self.assertEqual(ring, kept)

    def test_the_told_list_is_the_askers_own(self):
        for ring in ([], SQUARE[:1], list(SQUARE)):
            kept = copy.deepcopy(ring)
            told = sides(ring)
            expected = list(told)
            told.append("more")
            told.reverse()
            self.assertEqual(ring, kept)
            self.assertEqual(sides(ring), expected)

    def test_what_is_done_behind_to_the_ring_changes_no_told_list(self):
        ring = list(SQUARE)
        told = sides(ring)
        expected = list(told)
        ring[0] = point(9, 9)
        ring.append(point(8, 8))
        self.assertEqual(told, expected)
        self.assertEqual(len(sides(ring)), 5)


class RingAreas(unittest.TestCase):
    def test_round_to_the_left(self):
        check_ratio(self, area(SQUARE), 1)
        check_ratio(self, area(ring_of((0, 0), (4, 0), (4, 3))), 6)

    def test_round_to_the_right(self):
        check_ratio(self, area(turned(SQUARE)), -1)
        check_ratio(self, area(ring_of((0, 0), (4, 3), (4, 0))), -6)

    def test_wherever_the_ring_begins_and_lies(self):
        for k in range(4):
            check_ratio(self, area(SQUARE[k:] + SQUARE[:k]), 1)
        check_ratio(self, area(ring_of((-9, 5), (-8, 5), (-8, 6), (-9, 6))), 1)
        check_ratio(self, area(ring_of((-9, -6), (-8, -6), (-8, -5), (-9, -5))), 1)

    def test_crossing_itself(self):
        check_ratio(self, area(ring_of((0, 0), (2, 2), (2, 0), (0, 2))), 0)
        # A square of side 1 to the left and one of side 2 to the right, which cross at the point of two noughts.
        check_ratio(self, area(ring_of((1, 0), (1, 1), (0, 1), (0, -2), (-2, -2), (-2, 0))), -3)

    def test_twice_round(self):
        check_ratio(self, area(SQUARE + SQUARE), 2)

    def test_of_none_one_and_two_points(self):
        check_ratio(self, area([]), 0)
        check_ratio(self, area(ring_of(("7/3", "-1/5"))), 0)
        check_ratio(self, area(ring_of(("7/3", "-1/5"), (4, "9/2"))), 0)

    def test_of_points_that_are_alike(self):
        a, b, c, d = SQUARE
        check_ratio(self, area([a, a, b, c, c, c, d, a]), 1)
        check_ratio(self, area([b, b, b]), 0)

    def test_of_ratios_that_are_no_whole_numbers(self):
        check_ratio(self, area(ring_of(("1/2", "1/3"), ("5/2", "1/3"), ("1/2", "7/6"))), Fraction(5, 6))
        check_ratio(self, area(ring_of((0, 0), ("1/2", 0), ("1/2", "1/3"), (0, "1/3"))), Fraction(1, 6))
        check_ratio(self, area(ring_of((0, 0), (1, 0), (0, 1))), Fraction(1, 2))

    def test_of_large_ones(self):
        side = Fraction(THIRTY, 7)
        check_ratio(self, area(ring_of((0, 0), (side, 0), (side, side), (0, side))), side * side)
        far = Fraction(-THIRTY, THIRTY + 1)
        ring = ring_of((far, THIRTY), (THIRTY, far), (Fraction(1, THIRTY), Fraction(2, THIRTY + 5)))
        check_ratio(self, area(ring), area_by_strips(ring))

    def test_of_forty_points(self):
        check_ratio(self, area(FORTY), area_by_strips(FORTY))
        check_ratio(self, area(turned(FORTY)), -area_by_strips(FORTY))

    def test_of_forty_points_with_thirty_figures(self):
        ring = [point(Fraction(THIRTY + k * k, THIRTY - 2 * k), Fraction(THIRTY - k, THIRTY + 3 * k + 1))
                for k in range(40)]
        check_ratio(self, area(ring), area_by_strips(ring))

    def test_many_small_rings(self):
        number = 1
        for count in range(3, 60):
            pairs = []
            for k in range(count % 9):
                number = number * 48271 % 2147483647
                pairs.append((Fraction(number % 41 - 20, number % 5 + 1), Fraction(number % 37 - 18, number % 7 + 1)))
            ring = ring_of(*pairs)
            check_ratio(self, area(ring), area_by_strips(ring))

    def test_the_ring_handed_in_stays(self):
        for ring in ([], SQUARE[:1], list(SQUARE), list(FORTY)):
            kept = copy.deepcopy(ring)
            first = area(ring)
            self.assertEqual(ring, kept)
            self.assertEqual(area(ring), first)

    def test_a_ring_changed_behind_is_asked_anew(self):
        ring = list(SQUARE)
        told = area(ring)
        ring[2] = point(2, 2)
        self.assertEqual(told, (1, 1))
        self.assertEqual(area(ring), (2, 1))
        self.assertEqual(area(SQUARE), (1, 1))


class ShapeAreas(unittest.TestCase):
    def test_of_no_ring(self):
        check_ratio(self, shape_area([]), 0)

    def test_of_rings_without_points(self):
        check_ratio(self, shape_area([[], []]), 0)
        check_ratio(self, shape_area([[], SQUARE, []]), 1)

    def test_of_one_ring(self):
        check_ratio(self, shape_area([turned(SQUARE)]), -1)

    def test_of_several_rings(self):
        third = ring_of((5, 5), ("16/3", 5), ("16/3", 6), (5, 6))
        check_ratio(self, shape_area([SQUARE, third, SQUARE]), Fraction(7, 3))

    def test_of_rings_that_come_to_nought(self):
        check_ratio(self, shape_area([FORTY, turned(FORTY)]), 0)

    def test_of_a_ring_with_a_hole(self):
        outer = ring_of((0, 0), (4, 0), (4, 4), (0, 4))
        hole = ring_of((1, 1), (1, 2), ("5/2", 2), ("5/2", 1))
        check_ratio(self, shape_area([outer, hole]), Fraction(29, 2))

    def test_of_twenty_four_rings_of_forty_points(self):
        shape = [FORTY[k:] + FORTY[:k] for k in range(24)]
        check_ratio(self, shape_area(shape), 24 * area_by_strips(FORTY))

    def test_of_large_ratios(self):
        shape = [ring_of((0, 0), (Fraction(1, THIRTY + k), 0), (0, 1)) for k in range(24)]
        check_ratio(self, shape_area(shape), sum(Fraction(1, 2 * (THIRTY + k)) for k in range(24)))

    def test_what_is_handed_in_stays(self):
        for shape in ([], [[]], [list(SQUARE)], [list(SQUARE), list(FORTY), []]):
            kept = copy.deepcopy(shape)
            first = shape_area(shape)
            self.assertEqual(shape, kept)
            self.assertEqual(shape_area(shape), first)

    def test_a_list_within_changed_behind_is_asked_anew(self):
        shape = [list(SQUARE), list(SQUARE)]
        told = shape_area(shape)
        shape[1][2] = point(2, 2)
        self.assertEqual(told, (2, 1))
        self.assertEqual(shape_area(shape), (3, 1))


if __name__ == "__main__":
    unittest.main()
