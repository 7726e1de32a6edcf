"""Point 12 (cells and their shares) and point 15 (the shares of a floor)."""

import unittest
from fractions import Fraction

from checks import Drawn, as_ratio, box, check_lists_apart, check_own, check_ratio, ring_of, share_by_strips
from coverfill.sums import shares

FAR = 10 ** 12
THIRTY = 10 ** 29 + 33


def turned(ring):
    return ring[::-1]


class Shares(unittest.TestCase):
    def check(self, floor, shape, expected):
        """The rows expected stand here as they are seen, the highest one first."""
        told = shares(*floor, shape)
        self.check_kinds(floor, told)
        self.assertEqual(told, [[as_ratio(one) for one in row] for row in reversed(expected)])

    def check_kinds(self, floor, told):
        self.assertIs(type(told), list)
        self.assertEqual(len(told), floor[1])
        for row in told:
            self.assertIs(type(row), list)
            self.assertEqual(len(row), floor[0])
            for one in row:
                check_ratio(self, one, Fraction(*one))
        check_lists_apart(self, told)

    def check_by_strips(self, floor, shape):
        told = shares(*floor, shape)
        self.check_kinds(floor, told)
        for row in range(floor[1]):
            for column in range(floor[0]):
                check_ratio(self, told[row][column], share_by_strips(column, row, shape))
        return told

    def test_without_rings_and_points(self):
        for shape in ([], [[]], [[], [], []]):
            self.check((3, 2), shape, [[0, 0, 0], [0, 0, 0]])

    def test_of_one_and_two_points(self):
        self.check((2, 2), [ring_of(("1/2", "3/2"))], [[0, 0], [0, 0]])
        self.check((2, 2), [ring_of(("1/2", "3/2"), ("7/4", "1/8"))], [[0, 0], [0, 0]])
        self.check((2, 2), [ring_of((-5, -1), (-4, 9))], [[0, 0], [0, 0]])
        self.check((2, 2), [ring_of((1, 1), (1, 1), (1, 1))], [[0, 0], [0, 0]])

    def test_a_box_of_whole_cells(self):
        self.check((4, 3), [box(1, 3, 0, 2)], [[0, 0, 0, 0], [0, 1, 1, 0], [0, 1, 1, 0]])
        self.check((4, 3), [box(0, 4, 0, 3)], [[1, 1, 1, 1]] * 3)
        self.check((4, 3), [box(3, 4, 2, 3)], [[0, 0, 0, 1], [0, 0, 0, 0], [0, 0, 0, 0]])

    def test_rows_from_the_lowest_and_columns_from_the_left(self):
        told = shares(3, 2, [box(2, 3, 0, 1)])
        self.assertEqual(told, [[(0, 1), (0, 1), (1, 1)], [(0, 1), (0, 1), (0, 1)]])

    def test_a_box_of_parts_of_cells(self):
        self.check((3, 2), [box("1/2", "7/3", "1/4", "3/2")],
                   [["1/4", "1/2", "1/6"], ["3/8", "3/4", "1/4"]])

    def test_a_slanting_ring(self):
        self.check((2, 2), [ring_of((0, 0), (2, 0), (0, 2))], [["1/2", 0], [1, "1/2"]])
        self.check((3, 2), [ring_of((0, 0), (3, 0), (3, 2))], [[0, "1/12", "2/3"], ["1/3", "11/12", 1]])
        self.check((2, 2), [ring_of((1, 0), (2, 1), (1, 2), (0, 1))], [["1/2", "1/2"], ["1/2", "1/2"]])

    def test_a_hole(self):
        self.check((4, 4), [box(0, 4, 0, 4), turned(box(1, 3, 1, 3))],
                   [[1, 1, 1, 1], [1, 0, 0, 1], [1, 0, 0, 1], [1, 1, 1, 1]])
        self.check((2, 1), [box(0, 2, 0, 1), turned(box("1/2", "5/4", 0, "1/2"))], [["3/4", "7/8"]])

    def test_round_to_the_right(self):
        self.check((3, 2), [turned(box("1/2", "7/3", "1/4", "3/2"))],
                   [["-1/4", "-1/2", "-1/6"], ["-3/8", "-3/4", "-1/4"]])

    def test_crossing_itself(self):
        self.check((2, 2), [ring_of((0, 0), (2, 2), (2, 0), (0, 2))], [["1/2", "-1/2"], ["1/2", "-1/2"]])
        self.check((1, 1), [ring_of((0, 0), (1, 1), (1, 0), (0, 1))], [[0]])

    def test_twice_round_and_a_ring_twice(self):
        once = box("1/2", 2, 0, 1)
        self.check((3, 1), [once + once], [[1, 2, 0]])
        self.check((3, 1), [once, once], [[1, 2, 0]])

    def test_partly_off_the_floor_on_each_side(self):
        self.check((2, 2), [box(-3, "1/2", 0, 1)], [[0, 0], ["1/2", 0]])
        self.check((2, 2), [box("3/2", 9, 1, 2)], [[0, "1/2"], [0, 0]])
        self.check((2, 2), [box(0, 1, "3/2", 9)], [["1/2", 0], [0, 0]])
        self.check((2, 2), [box(1, 2, -9, "1/3")], [[0, 0], [0, "1/3"]])
        self.check((2, 2), [box(-9, 9, -9, 9)], [[1, 1], [1, 1]])
        self.check((2, 2), [ring_of((-2, -2), (4, -2), (-2, 4))], [["1/2", 0], [1, "1/2"]])

    def test_wholly_off_the_floor_on_each_side(self):
        for ring in (box(-3, -1, 0, 2), box(-3, 0, 0, 2), box(2, 5, 0, 2), box(3, 5, 0, 2), box(0, 2, 2, 5),
                     box(0, 2, 4, 5), box(0, 2, -5, 0), box(0, 2, -5, -1), box(-5, -1, -5, -1), box(3, 5, 3, 5),
                     ring_of((-1, 1), (-5, 9), (-5, -9)), ring_of((-2, 3), (5, 4), (0, 9))):
            self.check((2, 2), [ring], [[0, 0], [0, 0]])
            self.check((2, 2), [turned(ring)], [[0, 0], [0, 0]])

    def test_floors_of_one_by_one_and_of_twelve_by_twelve(self):
        self.check((1, 1), [ring_of((0, 0), (1, 0), (1, 1))], [["1/2"]])
        told = shares(12, 12, [ring_of((0, 0), (12, 0), (12, 12))])
        self.check_kinds((12, 12), told)
        for row in range(12):
            for column in range(12):
                expected = Fraction(1, 2) if row == column else Fraction(int(row < column))
                check_ratio(self, told[row][column], expected)

    def test_far_away_and_with_thirty_figures(self):
        self.check((2, 1), [box(-FAR, FAR, -FAR, FAR)], [[1, 1]])
        self.check((2, 1), [ring_of((-FAR, -FAR), (FAR, -FAR), (FAR, FAR))], [["1/2", 1]])
        self.check_by_strips((3, 3), [ring_of((-FAR, 1), (FAR, Fraction(1, 3)), (1, FAR))])
        self.check_by_strips((2, 2), [ring_of((Fraction(1, THIRTY), Fraction(1, THIRTY + 1)), (THIRTY, 1),
                                              (Fraction(THIRTY, THIRTY + 7), Fraction(2 * THIRTY, THIRTY + 1)))])

    def test_many(self):
        drawn = Drawn(16)
        for _ in range(120):
            floor = (drawn.chance.randint(1, 5), drawn.chance.randint(1, 5))
            self.check_by_strips(floor, drawn.shape(4, 7, -2, 7))

    def test_twenty_four_rings_of_forty_points(self):
        drawn = Drawn(17)
        shape = [[drawn.point(-2, 14, (1, 2, 4)) for _ in range(40)] for _ in range(24)]
        told = shares(12, 12, shape)
        self.check_kinds((12, 12), told)
        for column, row in ((0, 0), (11, 0), (5, 6), (11, 11), (0, 11)):
            check_ratio(self, told[row][column], share_by_strips(column, row, shape))

    def test_lists_are_the_askers_own(self):
        for shape in ([], [[]], [box(0, 1, 0, 1)], [box(-1, "3/2", 0, 2), [], ring_of((0, 0), (3, 1), (1, 3))]):
            check_own(self, shares, 2, 3, shape)

    def test_a_told_row_changed_changes_no_other_row(self):
        told = shares(2, 3, [])
        told[0][0] = "more"
        self.assertEqual(told[1:], [[(0, 1), (0, 1)]] * 2)
        self.assertEqual(shares(2, 3, []), [[(0, 1), (0, 1)]] * 3)

    def test_a_list_within_changed_behind_is_asked_anew(self):
        shape = [box(0, 1, 0, 1), box(1, 2, 0, 1)]
        told = shares(2, 1, shape)
        shape[1].clear()
        self.assertEqual(told, [[(1, 1), (1, 1)]])
        self.assertEqual(shares(2, 1, shape), [[(1, 1), (0, 1)]])


if __name__ == "__main__":
    unittest.main()
