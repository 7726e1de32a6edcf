"""Point 17: shapes moved, scaled, quartered, mirrored, turned round."""

import unittest
from fractions import Fraction

from checks import (Drawn, area_by_strips, as_ratio, box, check_lists_apart, check_own, check_ratio, check_ring,
                    exact_point, ring_of)
from coverfill.changes import mirrored, moved, quartered, scaled, turned_round
from coverfill.rings import shape_area

THIRTY = 10 ** 29 + 33
RING = ring_of((1, 2), ("3/2", "-1/3"), (0, "5/4"))
SHAPES = ([], [[]], [[], []], [ring_of((0, 0))], [RING], [RING, [], ring_of(("-7/2", 4), ("1/6", "1/6"))],
          [RING, RING, RING[::-1]], [ring_of((1, 1), (1, 1), (2, 0), (1, 1))])
NUMBERS = (0, 1, -1, 3, "1/2", "-1/2", "7/3", "-5/6", THIRTY, Fraction(-1, THIRTY))


def by_words(shape, change):
    """Each point of each ring, in order, put through a change of two numbers of Python's own."""
    told = []
    for ring in shape:
        told.append([tuple(as_ratio(part) for part in change(*exact_point(one))) for one in ring])
    return told


class Changes(unittest.TestCase):
    def check(self, told, expected):
        self.assertIs(type(told), list)
        for ring in told:
            check_ring(self, ring)
        check_lists_apart(self, told)
        self.assertEqual(told, expected)

    def check_own_of_all(self, change, *numbers):
        for shape in SHAPES:
            check_own(self, change, [list(ring) for ring in shape], *[as_ratio(one) for one in numbers])

    def drawn_shapes(self, seed):
        drawn = Drawn(seed)
        for _ in range(60):
            yield drawn, drawn.shape(4, 6, -5, 5)


class Moved(Changes):
    def test_ordinary(self):
        self.check(moved([RING, [], ring_of((0, 0))], (3, 1), (-1, 2)),
                   [ring_of((4, "3/2"), ("9/2", "-5/6"), (3, "3/4")), [], ring_of((3, "-1/2"))])

    def test_across_and_up_are_told_apart(self):
        self.check(moved([ring_of((10, 20))], (1, 1), (0, 1)), [ring_of((11, 20))])
        self.check(moved([ring_of((10, 20))], (0, 1), (1, 1)), [ring_of((10, 21))])

    def test_in_lowest_terms(self):
        self.check(moved([ring_of(("1/6", "-1/2"))], (1, 3), (1, 2)), [[((1, 2), (0, 1))]])

    def test_by_numbers_of_all_kinds(self):
        for shape in SHAPES:
            for across, up in zip(NUMBERS, NUMBERS[3:] + NUMBERS[:3]):
                exact = Fraction(across), Fraction(up)
                self.check(moved(shape, as_ratio(across), as_ratio(up)),
                           by_words(shape, lambda x, y: (x + exact[0], y + exact[1])))

    def test_by_nought_and_there_and_back(self):
        for drawn, shape in self.drawn_shapes(51):
            self.check(moved(shape, (0, 1), (0, 1)), shape)
            across, up = drawn.number(-9, 9), drawn.number(-9, 9)
            there = moved(shape, as_ratio(across), as_ratio(up))
            self.check(moved(there, as_ratio(-across), as_ratio(-up)), shape)
            self.assertEqual(shape_area(there), shape_area(shape))

    def test_lists_are_the_askers_own(self):
        self.check_own_of_all(moved, 0, 0)
        self.check_own_of_all(moved, "1/2", -3)


class Scaled(Changes):
    def test_ordinary(self):
        self.check(scaled([RING, [], ring_of((0, 0))], (3, 2)),
                   [ring_of(("3/2", 3), ("9/4", "-1/2"), (0, "15/8")), [], ring_of((0, 0))])

    def test_by_nought_all_points_are_one(self):
        self.check(scaled([RING, [], RING], (0, 1)), [[((0, 1), (0, 1))] * 3, [], [((0, 1), (0, 1))] * 3])

    def test_below_nought(self):
        self.check(scaled([RING], (-2, 1)), [ring_of((-2, -4), (-3, "2/3"), (0, "-5/2"))])

    def test_in_lowest_terms(self):
        self.check(scaled([ring_of(("2/3", "-4/5"))], (3, 2)), [[((1, 1), (-6, 5))]])

    def test_by_numbers_of_all_kinds(self):
        for shape in SHAPES:
            for by in NUMBERS:
                self.check(scaled(shape, as_ratio(by)),
                           by_words(shape, lambda x, y: (x * Fraction(by), y * Fraction(by))))

    def test_there_and_back_and_areas(self):
        for drawn, shape in self.drawn_shapes(52):
            self.check(scaled(shape, (1, 1)), shape)
            by = drawn.number(-4, 4) or Fraction(3, 5)
            there = scaled(shape, as_ratio(by))
            self.check(scaled(there, as_ratio(1 / by)), shape)
            check_ratio(self, shape_area(there), by * by * sum(map(area_by_strips, shape)))

    def test_lists_are_the_askers_own(self):
        self.check_own_of_all(scaled, 1)
        self.check_own_of_all(scaled, 0)
        self.check_own_of_all(scaled, "-2/3")


class Quartered(Changes):
    def test_ordinary(self):
        self.check(quartered([RING, [], ring_of((0, 0))], (5, 2)),
                   [ring_of(("1/2", 1), ("17/6", "3/2"), ("5/4", 0)), [], ring_of(("5/2", 0))])

    def test_a_floors_corners(self):
        self.check(quartered([box(0, 5, 0, 3)], (3, 1)), [ring_of((3, 0), (3, 5), (0, 5), (0, 0))])

    def test_in_lowest_terms(self):
        self.check(quartered([ring_of(("1/2", "1/6"))], (2, 3)), [[((1, 2), (1, 2))]])

    def test_with_numbers_of_all_kinds(self):
        for shape in SHAPES:
            for height in NUMBERS:
                self.check(quartered(shape, as_ratio(height)), by_words(shape, lambda x, y: (Fraction(height) - y, x)))

    def test_four_times_with_height_width_height_width(self):
        for drawn, shape in self.drawn_shapes(53):
            width, height = as_ratio(drawn.number(-4, 9)), as_ratio(drawn.number(-4, 9))
            told = shape
            for side in (height, width, height, width):
                told = quartered(told, side)
            self.check(told, shape)
            self.assertEqual(shape_area(quartered(shape, height)), shape_area(shape))

    def test_lists_are_the_askers_own(self):
        self.check_own_of_all(quartered, 0)
        self.check_own_of_all(quartered, "7/2")


class Mirrored(Changes):
    def test_ordinary(self):
        self.check(mirrored([RING, [], ring_of((0, 0))], (5, 2)),
                   [ring_of(("3/2", 2), (1, "-1/3"), ("5/2", "5/4")), [], ring_of(("5/2", 0))])

    def test_in_lowest_terms(self):
        self.check(mirrored([ring_of(("1/6", "1/2"))], (2, 3)), [[((1, 2), (1, 2))]])

    def test_with_numbers_of_all_kinds(self):
        for shape in SHAPES:
            for width in NUMBERS:
                self.check(mirrored(shape, as_ratio(width)), by_words(shape, lambda x, y: (Fraction(width) - x, y)))

    def test_twice_and_areas(self):
        for drawn, shape in self.drawn_shapes(54):
            width = as_ratio(drawn.number(-4, 9))
            told = mirrored(shape, width)
            self.check(mirrored(told, width), shape)
            check_ratio(self, shape_area(told), -sum(map(area_by_strips, shape)))

    def test_lists_are_the_askers_own(self):
        self.check_own_of_all(mirrored, 0)
        self.check_own_of_all(mirrored, "7/2")


class TurnedRound(Changes):
    def test_ordinary(self):
        self.check(turned_round([RING, [], ring_of((0, 0), (1, 1))]),
                   [ring_of((0, "5/4"), ("3/2", "-1/3"), (1, 2)), [], ring_of((1, 1), (0, 0))])

    def test_the_rings_stay_in_order(self):
        self.check(turned_round([ring_of((1, 0)), ring_of((2, 0)), []]), [ring_of((1, 0)), ring_of((2, 0)), []])

    def test_without_rings_and_points(self):
        for shape in ([], [[]], [[], []], [ring_of((3, "1/2"))]):
            self.check(turned_round(shape), shape)

    def test_twice_and_areas(self):
        for drawn, shape in self.drawn_shapes(55):
            told = turned_round(shape)
            self.check(told, [ring[::-1] for ring in shape])
            self.check(turned_round(told), shape)
            check_ratio(self, shape_area(told), -sum(map(area_by_strips, shape)))

    def test_lists_are_the_askers_own(self):
        self.check_own_of_all(turned_round)


if __name__ == "__main__":
    unittest.main()
