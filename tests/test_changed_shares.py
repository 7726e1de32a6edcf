"""Point 18, and point 3 as far as it speaks of changed shapes: what changes of a shape do to its shares."""

import unittest
from fractions import Fraction

from checks import Drawn, as_ratio, box, ring_of
from coverfill.changes import mirrored, moved, quartered, scaled, turned_round
from coverfill.sums import shares

HALF = (1, 2)
FLOORS = ((1, 1), (1, 5), (4, 2), (3, 3), (5, 6), (6, 1))
# Two slanting sides and no likeness to itself, so that each change shows in each cell.
RING = ring_of((0, 0), (3, "1/2"), ("5/2", 2), ("1/3", "4/3"))
SHAPES = ([], [[]], [ring_of((1, 1))], [RING], [RING[::-1], box(1, 9, -9, 1)], [RING * 2, [], box(0, 2, 0, 2)],
          [ring_of((-1, 3), (6, -2), (6, 5), (0, -3)), box("1/2", "3/2", "1/2", 7)[::-1]])


def exact_shares(floor, shape):
    """The shares by cells: a dict of numbers of Python's own."""
    told = shares(*floor, shape)
    return {(column, row): Fraction(*told[row][column]) for row in range(floor[1]) for column in range(floor[0])}


def drawn_cases(seed, count):
    """Floors and shapes: half of these with points on the floor's lines alone, so that many corners are met."""
    drawn = Drawn(seed)
    for k in range(count):
        bottoms = (1,) if k % 2 else (1, 2, 3, 5)
        yield drawn, drawn.chance.choice(FLOORS), drawn.shape(4, 7, -2, 8, bottoms)


def cases(seed, count):
    for shape in SHAPES:
        for floor in FLOORS:
            yield floor, shape
    for drawn, floor, shape in drawn_cases(seed, count):
        yield floor, shape


class ChangedShares(unittest.TestCase):
    def check_moved(self, floor, shape, across, up):
        told = exact_shares(floor, moved(shape, (across, 1), (up, 1)))
        before = exact_shares(floor, shape)
        met = 0
        for (column, row), share in before.items():
            if (column + across, row + up) in told:
                self.assertEqual(told[column + across, row + up], share)
                met += 1
        self.assertEqual(met, max(floor[0] - abs(across), 0) * max(floor[1] - abs(up), 0))

    def test_two_shapes_in_one_list(self):
        for one in SHAPES:
            for other in SHAPES:
                self.check_sums((4, 3), one, other)
        drawn = Drawn(61)
        for _ in range(80):
            self.check_sums(drawn.chance.choice(FLOORS), drawn.shape(3, 7, -2, 7), drawn.shape(3, 7, -2, 7))

    def check_sums(self, floor, one, other):
        told = exact_shares(floor, one + other)
        first, second = exact_shares(floor, one), exact_shares(floor, other)
        self.assertEqual(told, {cell: first[cell] + second[cell] for cell in told})

    def test_turned_round(self):
        self.assertEqual(shares(2, 1, turned_round([box(0, "3/2", 0, 1)])), [[(-1, 1), (-1, 2)]])
        for floor, shape in cases(62, 100):
            before = exact_shares(floor, shape)
            self.assertEqual(exact_shares(floor, turned_round(shape)), {cell: -before[cell] for cell in before})

    def test_moved_by_whole_numbers(self):
        shape = [box(1, "5/2", 0, "1/2")]
        self.assertEqual(shares(3, 2, shape), [[(0, 1), HALF, (1, 4)], [(0, 1)] * 3])
        self.assertEqual(shares(3, 2, moved(shape, (-1, 1), (1, 1))), [[(0, 1)] * 3, [HALF, (1, 4), (0, 1)]])
        for across, up in ((0, 0), (1, 0), (0, 1), (-1, 0), (0, -1), (2, -1), (-3, 2), (1, 4), (9, 0), (0, -20)):
            for shape in SHAPES:
                self.check_moved((5, 4), shape, across, up)
        for drawn, floor, shape in drawn_cases(63, 120):
            self.check_moved(floor, shape, drawn.chance.randint(-4, 4), drawn.chance.randint(-4, 4))

    def test_moved_onto_the_floor_from_beyond_it(self):
        """The cells of a floor of two by two, seen one by one as the shape goes by."""
        for drawn, floor, shape in drawn_cases(64, 40):
            before = exact_shares((8, 7), shape)
            for across, up in ((-2, -1), (-6, -5), (-3, 0), (0, -4)):
                told = exact_shares((2, 2), moved(shape, (across, 1), (up, 1)))
                self.assertEqual(told, {(i, j): before[i - across, j - up] for i in (0, 1) for j in (0, 1)})

    def test_moved_off_the_floor(self):
        drawn = Drawn(65)
        far = 10 ** 12
        for _ in range(40):
            shape = drawn.shape(3, 7, 0, 4)
            for across, up in ((4, 0), (-4, 0), (0, 4), (0, -4), (far, 0), (-far, 1), (1, far), (0, -far), (-far, far)):
                told = shares(4, 4, moved(shape, (across, 1), (up, 1)))
                self.assertEqual(told, [[(0, 1)] * 4] * 4)

    def test_quartered_with_the_floors_height(self):
        # Three across and two up; the first cell of the lowest row comes to lie rightmost in it.
        shape = [box(0, "1/2", 0, 1), box(2, 3, 0, "1/4")]
        self.assertEqual(shares(3, 2, shape), [[HALF, (0, 1), (1, 4)], [(0, 1)] * 3])
        self.assertEqual(shares(2, 3, quartered(shape, (2, 1))), [[(0, 1), HALF], [(0, 1)] * 2, [(0, 1), (1, 4)]])
        for (width, height), shape in cases(66, 120):
            before = exact_shares((width, height), shape)
            told = exact_shares((height, width), quartered(shape, (height, 1)))
            self.assertEqual(told, {(height - 1 - j, i): share for (i, j), share in before.items()})

    def test_mirrored_with_the_floors_width(self):
        shape = [box(0, "1/2", 0, 1), box(2, 3, 0, "1/4")]
        self.assertEqual(shares(3, 2, mirrored(shape, (3, 1))), [[(-1, 4), (0, 1), (-1, 2)], [(0, 1)] * 3])
        for (width, height), shape in cases(67, 120):
            before = exact_shares((width, height), shape)
            told = exact_shares((width, height), mirrored(shape, (width, 1)))
            self.assertEqual(told, {(width - 1 - i, j): -share for (i, j), share in before.items()})

    def test_scaled_by_a_half(self):
        self.assertEqual(shares(2, 1, scaled([box(0, 3, 0, 1)], HALF)), [[HALF, (1, 4)]])
        for (width, height), shape in cases(68, 120):
            before = exact_shares((2 * width, 2 * height), shape)
            told = exact_shares((width, height), scaled(shape, HALF))
            expected = {}
            for i, j in told:
                four = [(2 * i, 2 * j), (2 * i + 1, 2 * j), (2 * i, 2 * j + 1), (2 * i + 1, 2 * j + 1)]
                expected[i, j] = sum(before[cell] for cell in four) / 4
            self.assertEqual(told, expected)

    def test_twelve_by_twelve(self):
        shape = [ring_of((-1, "1/2"), (13, 4), (5, "25/2"), ("7/3", 3), (11, 11)), box("3/2", 7, 2, "19/2")[::-1]]
        self.check_moved((12, 12), shape, 5, -2)
        before = exact_shares((12, 12), shape)
        told = exact_shares((12, 12), quartered(shape, as_ratio(12)))
        self.assertEqual(told, {(11 - j, i): share for (i, j), share in before.items()})
        told = exact_shares((12, 12), mirrored(shape, as_ratio(12)))
        self.assertEqual(told, {(11 - i, j): -share for (i, j), share in before.items()})


if __name__ == "__main__":
    unittest.main()
