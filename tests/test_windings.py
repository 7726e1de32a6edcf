"""Point 16: the winding of a shape at a point, and the share of a cell in which no piece lies."""

import unittest
from fractions import Fraction

from checks import Drawn, as_ratio, box, check_own, exact_point, point, ring_of
from coverfill.rings import sides
from coverfill.sums import shares
from coverfill.walks import pieces
from coverfill.windings import winding

FAR = 10 ** 12
THIRTY = 10 ** 29 + 33
DIAMOND = ring_of((1, 0), (2, 1), (1, 2), (0, 1))
BOW = ring_of((0, 0), (4, 4), (4, 0), (0, 4))
STAR = ring_of((0, 3), (10, 3), (2, 9), (5, 0), (8, 9))


def exact_sides(shape):
    for ring in shape:
        exact = [exact_point(one) for one in ring]
        yield from zip(exact, exact[1:] + exact[:1])


def seen_from(place, end):
    return (end[0] - place[0], end[1] - place[1])


def cross(one, other):
    return one[0] * other[1] - one[1] * other[0]


def quarter(way):
    """In which quarter round the point a way from it leads, counted to the left."""
    x, y = way
    if x > 0 and y >= 0:
        return 0
    if x <= 0 and y > 0:
        return 1
    return 2 if x < 0 else 3


def winding_by_quarters(shape, place):
    """The winding by another way than the program's: the quarters that each side goes round the point."""
    place = exact_point(place)
    gone = 0
    for start, end in exact_sides(shape):
        one, other = seen_from(place, start), seen_from(place, end)
        steps = (quarter(other) - quarter(one)) % 4
        if steps == 2:
            gone += 2 if cross(one, other) > 0 else -2
        else:
            gone += (0, 1, None, -1)[steps]
    assert gone % 4 == 0
    return gone // 4


def lies_on_a_side(shape, place):
    place = exact_point(place)
    for start, end in exact_sides(shape):
        one, other = seen_from(place, start), seen_from(place, end)
        if start != end and cross(one, other) == 0 and one[0] * other[0] + one[1] * other[1] <= 0:
            return True
    return False


def turned(shape):
    return [ring[::-1] for ring in shape]


class Windings(unittest.TestCase):
    def check(self, shape, place, expected):
        """Also turned round, ring by ring, and with each ring begun at each of its points."""
        self.assertEqual(winding_by_quarters(shape, place), expected)
        told = winding(shape, place)
        self.assertIs(type(told), int)
        self.assertEqual(told, expected)
        self.assertEqual(winding(turned(shape), place), -expected)
        self.assertEqual(sum(winding([ring], place) for ring in shape), expected)
        for begin in range(max((len(ring) for ring in shape), default=0)):
            self.assertEqual(winding([ring[begin:] + ring[:begin] for ring in shape], place), expected)

    def check_at(self, shape, expected):
        """The winding at each of these places, a dict of them."""
        for place, count in expected.items():
            with self.subTest(place=place):
                self.check(shape, point(*place), count)

    def test_without_rings_and_points(self):
        for shape in ([], [[]], [[], [], []]):
            self.check_at(shape, {(0, 0): 0, ("1/3", "-7/2"): 0, (FAR, -FAR): 0})

    def test_of_one_and_two_points(self):
        around = {(-1, 1): 0, (3, 1): 0, (1, 3): 0, (1, -1): 0, (0, 2): 0, (2, 0): 0, ("3/2", "1/2"): 0}
        self.check_at([ring_of((1, 1))], around)
        self.check_at([ring_of((1, 1), (1, 1), (1, 1))], around)
        self.check_at([ring_of((0, 0), (2, 2))], around)
        self.check_at([ring_of((0, 1), (2, 1))], {(-1, 1): 0, (3, 1): 0, (1, 2): 0, (1, 0): 0})
        self.check_at([ring_of((1, 0), (1, 2))], {(0, 1): 0, (2, 1): 0, (2, 0): 0, (2, 2): 0, (1, 3): 0})

    def test_round_to_the_left_and_to_the_right(self):
        self.assertEqual(winding([box(0, 2, 0, 2)], point(1, 1)), 1)
        self.assertEqual(winding([box(0, 2, 0, 2)[::-1]], point(1, 1)), -1)
        self.check([ring_of((0, 0), (4, 0), (0, 3))], point(1, 1), 1)
        self.check([ring_of((0, 0), (0, 3), (4, 0))], point(1, 1), -1)

    def test_left_right_above_and_below(self):
        self.check_at([box(0, 3, 0, 2)], {(-1, 1): 0, (4, 1): 0, (1, 3): 0, (1, -1): 0, (-1, -1): 0, (4, 4): 0,
                                          (-1, 3): 0, (4, -1): 0, (1, 1): 1, (2, 1): 1})
        self.check_at([ring_of((0, 0), (4, 4), (0, 4))], {(1, 2): 1, (3, 2): 0, (2, 1): 0, (-1, 2): 0, (2, 5): 0})

    def test_at_the_height_of_a_corner(self):
        self.check_at([DIAMOND], {(1, 1): 1, ("1/2", 1): 1, ("3/2", 1): 1, (-1, 1): 0, (3, 1): 0, (0, 0): 0,
                                  (2, 0): 0, (0, 2): 0, (2, 2): 0})
        # A corner that points down to the height, and one that points up to it, left of the place.
        self.check_at([ring_of((0, 3), (1, 1), (2, 3))], {(2, 1): 0, (5, 1): 0, (0, 1): 0, (1, 2): 1})
        self.check_at([ring_of((0, 0), (2, 0), (1, 1))], {(2, 1): 0, (5, 1): 0, (0, 1): 0, (1, "1/2"): 1})
        # A corner left of the place at which the ring goes on downwards.
        self.check_at([ring_of((0, 3), (1, 1), (0, 0), (5, 0), (5, 3))], {(2, 1): 1, (0, 1): 0, (6, 1): 0})

    def test_at_the_height_of_a_level_side(self):
        self.check_at([box(0, 2, 0, 2)], {(-1, 0): 0, (3, 0): 0, (-1, 2): 0, (3, 2): 0})
        # Steps: a level side at height 1 left of the place, with the ring going down, or up, or back, behind it.
        self.check_at([ring_of((0, 3), (0, 1), (1, 1), (1, 0), (4, 0), (4, 3))], {(2, 1): 1, (-1, 1): 0, (5, 1): 0})
        self.check_at([ring_of((0, 3), (1, 1), (2, 1), (3, 3))], {(4, 1): 0, (0, 1): 0})
        self.check_at([ring_of((0, 0), (3, 0), (2, 1), (1, 1))], {(4, 1): 0, (0, 1): 0})
        self.check_at([ring_of((0, 0), (6, 0), (6, 3), (4, 3), (4, 1), (2, 1), (2, 3), (0, 3))],
                      {(1, 1): 1, (5, 1): 1, (7, 1): 0, (3, 2): 0, (3, "1/2"): 1})

    def test_ratios_that_are_no_whole_numbers(self):
        ring = ring_of(("1/3", "1/7"), ("22/7", "1/2"), ("5/2", "19/6"))
        self.check_at([ring], {("2/3", "1/3"): 1, ("2/3", "3/2"): 0, ("5/2", "3/7"): 1, ("1/3", "2/7"): 0,
                               ("9/4", "8/3"): 1, ("-1/2", "1/2"): 0})
        # Just beside the slanting side, by one part of a long bottom: left of it, then right.
        slanting = [ring_of((0, 0), (3, 1), (0, 1))]
        self.check(slanting, point(1 - Fraction(1, THIRTY), "1/3"), 1)
        self.check(slanting, point(1 + Fraction(1, THIRTY), "1/3"), 0)

    def test_far_away_and_with_thirty_figures(self):
        self.check_at([box(-FAR, FAR, -FAR, FAR)], {(0, 0): 1, (FAR - 1, 1 - FAR): 1, (FAR + 1, 0): 0})
        ring = ring_of((-THIRTY, Fraction(1, THIRTY)), (THIRTY, Fraction(2, THIRTY)), (0, THIRTY))
        self.check_at([ring], {(0, 1): 1, (0, Fraction(1, THIRTY)): 0, (THIRTY, 1): 0, (1, THIRTY // 2): 1})

    def test_twice_round(self):
        once = box(0, 3, 0, 3)
        self.check([once + once], point(1, 1), 2)
        self.check([once + once], point(4, 1), 0)
        self.check([once * 5], point(1, 1), 5)
        inner = ring_of((0, 0), (6, 0), (6, 6), (0, 6), (0, 1), (5, 1), (5, 5), (1, 5), (1, 0))
        self.check_at([inner], {(3, 3): 2, ("11/2", 3): 1, ("1/2", "1/2"): 0, ("1/2", "3/2"): 1, (7, 3): 0})

    def test_crossing_itself(self):
        self.check_at([BOW], {(1, 2): 1, (3, 2): -1, (2, 3): 0, (2, 1): 0, (5, 2): 0, (-1, 2): 0})
        self.check_at([STAR], {(5, 4): 2, (1, 1): 0, ("5/2", 8): 1})

    def test_a_hole(self):
        shape = [box(0, 4, 0, 4), box(1, 3, 1, 3)[::-1]]
        self.check_at(shape, {(2, 2): 0, ("1/2", 2): 1, ("7/2", 2): 1, (2, "1/2"): 1, (2, "7/2"): 1, (5, 2): 0})

    def test_several_rings(self):
        shape = [box(0, 4, 0, 4), [], box(2, 6, 2, 6), ring_of((9, 9)), box(3, 8, 3, 8)]
        self.check_at(shape, {(1, 1): 1, ("5/2", "5/2"): 2, ("7/2", "7/2"): 3, (5, 5): 2, (7, 7): 1, (9, 8): 0,
                              (9, 5): 0})
        self.check([box(0, 2, 0, 2), box(0, 2, 0, 2)[::-1]], point(1, 1), 0)

    def test_a_point_twice_one_behind_the_other(self):
        doubled = [one for one in DIAMOND for _ in range(2)]
        self.check_at([doubled], {(1, 1): 1, (3, 1): 0, (-1, 1): 0, (2, 2): 0, (0, 2): 0})
        # Also on the first point and the last, and at a place on that side from a point to itself alone.
        ring = ring_of((0, 0), (4, 0), (4, 4), (4, 4), (0, 4), (0, 0))
        self.check_at([ring], {(2, 2): 1, (5, 4): 0, (5, 0): 0, (-1, 0): 0})
        self.check([ring_of((1, 1), (1, 1)), box(0, 2, 0, 2)], point(1, 1), 1)

    def test_many(self):
        drawn = Drawn(41)
        met = 0
        for k in range(400):
            bottoms = (1,) if k % 2 else (1, 2, 3)
            shape = drawn.shape(4, 9, -3, 6, bottoms)
            for place in [drawn.point(-4, 7, bottoms) for _ in range(6)]:
                if not lies_on_a_side(shape, place):
                    self.check(shape, place, winding_by_quarters(shape, place))
                    met += 1
        self.assertGreater(met, 1500)

    def test_at_corners_of_other_rings(self):
        """Places at the heights of many corners: the points of one ring, seen from all the others."""
        drawn = Drawn(42)
        for _ in range(60):
            shape = [drawn.ring(8, -2, 3, (1,)) for _ in range(4)]
            for place in shape[0]:
                if not lies_on_a_side(shape[1:], place):
                    self.check(shape[1:], place, winding_by_quarters(shape[1:], place))

    def test_what_is_handed_in_stays(self):
        check_own(self, winding, [box(0, 2, 0, 2), [], BOW[:]], point("1/2", 1))
        check_own(self, winding, [], point(1, 1))

    def test_a_list_within_changed_behind_is_asked_anew(self):
        shape = [box(0, 2, 0, 2), box(0, 2, 0, 2)]
        self.assertEqual(winding(shape, point(1, 1)), 2)
        shape[1].clear()
        self.assertEqual(winding(shape, point(1, 1)), 1)


class CellsWithoutPieces(unittest.TestCase):
    def check(self, floor, shape):
        """How many cells without a piece there were, by their shares."""
        width, height = floor
        held = {piece[:2] for ring in shape for side in sides(ring) for piece in pieces(width, height, side)}
        told = shares(width, height, shape)
        counts = {}
        for row in range(height):
            for column in range(width):
                if (column, row) not in held:
                    middle = point(Fraction(2 * column + 1, 2), Fraction(2 * row + 1, 2))
                    share = winding(shape, middle)
                    self.assertEqual(told[row][column], as_ratio(share))
                    counts[share] = counts.get(share, 0) + 1
        return counts

    def test_ordinary_shapes(self):
        self.assertEqual(self.check((4, 3), []), {0: 12})
        self.assertEqual(self.check((4, 3), [box(-1, 5, -1, 4)]), {1: 12})
        self.assertEqual(self.check((4, 4), [box("1/2", "7/2", "1/2", "7/2")]), {1: 4})
        self.assertEqual(self.check((4, 4), [box(-1, 9, -1, 9), box("1/2", "7/2", "1/2", "7/2")[::-1]]), {0: 4})
        self.assertEqual(self.check((2, 2), [box(-1, 3, -1, 3)[::-1] * 2]), {-2: 4})
        self.assertEqual(self.check((1, 1), [ring_of((-9, 1), (9, 0), (9, 1))]), {})

    def test_sides_on_the_lines_between_cells(self):
        # A piece on the line between two cells counts as one of the right one, and of the upper one.
        self.assertEqual(self.check((3, 3), [box(1, 2, 1, 2)]), {0: 6})
        self.assertEqual(self.check((5, 5), [box(0, 5, 0, 5)]), {1: 16})

    def test_many(self):
        drawn = Drawn(43)
        counts = {}
        for k in range(200):
            floor = drawn.chance.choice(((1, 1), (2, 5), (5, 3), (7, 7), (12, 12), (1, 9)))
            bottoms = (1,) if k % 2 else (1, 2, 3, 5)
            shape = drawn.shape(4, 6, -6, 18, bottoms)
            for share, count in self.check(floor, shape).items():
                counts[share] = counts.get(share, 0) + count
        self.assertTrue({-2, -1, 0, 1, 2} <= set(counts), counts)


if __name__ == "__main__":
    unittest.main()
