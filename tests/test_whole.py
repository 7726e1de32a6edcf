"""Point 3, as far as it speaks of shares: cells, floors, and shapes cut in two."""

import unittest
from fractions import Fraction

from checks import Drawn, as_ratio, box, check_ratio, exact_point, line_of, ring_of
from coverfill.cuts import against, cut_shape, window_shape
from coverfill.rings import shape_area
from coverfill.sums import shares

CROSSING = ring_of((0, 0), (6, 5), (6, 0), (0, 5), (3, -2), ("7/2", 8))
SHAPES = ([], [[]], [ring_of((1, 1))], [ring_of((0, 3), (4, 1))], [box(0, 3, 0, 3)], [box(-2, 9, -2, 9)],
          [box(0, 4, 0, 4), box(1, 3, 1, 3)[::-1]], [CROSSING], [CROSSING, CROSSING[::-1]],
          [CROSSING + box(1, 2, 1, 2), box("1/2", "7/2", "1/3", "8/3")])


def drawn_shapes(seed, count):
    """Floors and shapes: half of these with points on the floor's lines alone, so that many corners are met."""
    drawn = Drawn(seed)
    for k in range(count):
        floor = (drawn.chance.randint(1, 4), drawn.chance.randint(1, 4))
        bottoms = (1,) if k % 2 else (1, 2, 3, 5)
        yield drawn, floor, drawn.shape(4, 8, -2, 6, bottoms)


def window_share(shape, left, right, low, high):
    return shape_area(window_shape(shape, *[as_ratio(side) for side in (left, right, low, high)]))


def exact_sum(some):
    return sum((Fraction(*one) for one in some), Fraction(0))


class Whole(unittest.TestCase):
    def check_cells(self, floor, shape):
        told = shares(*floor, shape)
        for row in range(floor[1]):
            for column in range(floor[0]):
                self.assertEqual(told[row][column], window_share(shape, column, column + 1, row, row + 1))

    def check_floor(self, floor, shape):
        told = shares(*floor, shape)
        check_ratio(self, window_share(shape, 0, floor[0], 0, floor[1]), exact_sum(sum(told, [])))

    def check_cut_in_two(self, floor, shape, line):
        told = shares(*floor, shape)
        one = shares(*floor, cut_shape(shape, line))
        other = shares(*floor, cut_shape(shape, against(line)))
        for row in range(floor[1]):
            for column in range(floor[0]):
                check_ratio(self, told[row][column], exact_sum([one[row][column], other[row][column]]))

    def test_each_cell_is_the_area_cut_to_it(self):
        for shape in SHAPES:
            self.check_cells((5, 4), shape)
        for drawn, floor, shape in drawn_shapes(31, 120):
            self.check_cells(floor, shape)

    def test_all_shares_come_to_the_area_cut_to_the_floor(self):
        for shape in SHAPES:
            self.check_floor((5, 4), shape)
        for drawn, floor, shape in drawn_shapes(32, 120):
            self.check_floor(floor, shape)

    def test_all_shares_of_a_shape_on_the_floor_come_to_its_area(self):
        drawn = Drawn(33)
        for _ in range(60):
            shape = drawn.shape(3, 7, 0, 5)
            check_ratio(self, shape_area(shape), exact_sum(sum(shares(5, 5, shape), [])))

    def test_cut_in_two_by_lines_of_every_kind(self):
        lines = (line_of(1, 0, 2), line_of(-1, 0, "-5/2"), line_of(0, 1, 1), line_of(0, "2/3", 1), line_of(1, 1, 4),
                 line_of(5, -6, 0), line_of("1/2", 3, 50), line_of("1/2", 3, -50))
        for shape in SHAPES:
            for line in lines:
                self.check_cut_in_two((5, 4), shape, line)

    def test_cut_in_two_by_drawn_lines(self):
        for drawn, floor, shape in drawn_shapes(34, 120):
            self.check_cut_in_two(floor, shape, drawn.line(-4, 6))

    def test_cut_in_two_by_lines_through_two_points_of_a_ring(self):
        for drawn, floor, shape in drawn_shapes(35, 80):
            points = sum(shape, [])
            if len(points) > 1:
                (x, y), (across, up) = [exact_point(one) for one in drawn.chance.sample(points, 2)]
                a, b = up - y, x - across
                if a or b:
                    self.check_cut_in_two(floor, shape, line_of(a, b, a * x + b * y))

    def test_twelve_by_twelve(self):
        shape = [ring_of((-1, "1/2"), (13, 4), (5, "25/2"), ("7/3", 3), (11, 11)), box("3/2", 7, 2, "19/2")[::-1]]
        self.check_cells((12, 12), shape)
        self.check_floor((12, 12), shape)
        self.check_cut_in_two((12, 12), shape, line_of(3, "-7/2", 1))

    def test_far_away_from_the_floor(self):
        far = 10 ** 12
        shape = [ring_of((-far, 1), (far, 2), ("1/3", far)), ring_of((2, -far), (far, far), (-far, 3))]
        self.check_cells((3, 3), shape)
        self.check_floor((3, 3), shape)
        self.check_cut_in_two((3, 3), shape, line_of(1, 2, 4))


if __name__ == "__main__":
    unittest.main()
