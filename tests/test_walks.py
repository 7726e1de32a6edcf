"""Point 12 (floors), point 13 (pieces of a side), point 14 (fall and right of a piece)."""

import math
import unittest
from fractions import Fraction

from checks import Drawn, check_own, check_point, check_ratio, exact_point, point
from coverfill.walks import fall, pieces, right

FAR = 10 ** 12
THIRTY = 10 ** 29 + 33


def side_of(start, end):
    return (point(*start), point(*end))


def turned(side):
    return (side[1], side[0])


def piece_of(column, row, start, end):
    return (column, row, point(*start), point(*end))


def pieces_by_words(width, height, side):
    """The words of point 13, on numbers of Python's own: by how far along the side each cut lies."""
    (x, y), (across, up) = exact_point(side[0]), exact_point(side[1])
    if (x, y) == (across, up):
        return []
    cuts = {Fraction(0), Fraction(1)}
    cuts |= {(i - x) / (across - x) for i in range(width + 1) if across != x}
    cuts |= {(j - y) / (up - y) for j in range(height + 1) if up != y}
    places = sorted(cut for cut in cuts if 0 <= cut <= 1)
    points = [(x + (across - x) * place, y + (up - y) * place) for place in places]
    told = []
    for one, other in zip(points, points[1:]):
        column, row = math.floor((one[0] + other[0]) / 2), math.floor((one[1] + other[1]) / 2)
        if 0 <= row < height and column < width:
            told.append((max(column, -1), row, point(*one), point(*other)))
    return told


class Pieces(unittest.TestCase):
    def check_kinds(self, told):
        self.assertIs(type(told), list)
        for piece in told:
            self.assertIs(type(piece), tuple)
            self.assertEqual(len(piece), 4)
            self.assertIs(type(piece[0]), int)
            self.assertIs(type(piece[1]), int)
            check_point(self, piece[2])
            check_point(self, piece[3])

    def check(self, floor, side, *expected):
        """The side has just these pieces; the other way round it has them from the last to the first, each turned."""
        told = pieces(*floor, side_of(*side))
        self.check_kinds(told)
        self.assertEqual(told, [piece_of(*piece) for piece in expected])
        back = pieces(*floor, turned(side_of(*side)))
        self.check_kinds(back)
        self.assertEqual(back, [piece_of(column, row, b, a) for column, row, a, b in reversed(expected)])

    def check_by_words(self, floor, side):
        for one in (side, turned(side)):
            told = pieces(*floor, one)
            self.check_kinds(told)
            self.assertEqual(told, pieces_by_words(*floor, one))

    def test_from_a_point_to_itself_none(self):
        for pair in ((0, 0), (1, 1), ("1/2", "1/2"), (-3, "1/2"), (7, 7), (FAR, -FAR)):
            self.check((3, 3), (pair, pair))

    def test_wholly_within_a_cell(self):
        self.check((3, 3), (("5/4", "1/4"), ("7/4", "3/4")), (1, 0, ("5/4", "1/4"), ("7/4", "3/4")))
        self.check((3, 3), (("9/4", "9/4"), ("9/4", "11/4")), (2, 2, ("9/4", "9/4"), ("9/4", "11/4")))
        self.check((3, 3), (("1/3", "3/2"), ("2/3", "3/2")), (0, 1, ("1/3", "3/2"), ("2/3", "3/2")))

    def test_level(self):
        self.check((3, 2), (("1/2", "1/2"), ("5/2", "1/2")),
                   (0, 0, ("1/2", "1/2"), (1, "1/2")), (1, 0, (1, "1/2"), (2, "1/2")),
                   (2, 0, (2, "1/2"), ("5/2", "1/2")))

    def test_upright(self):
        self.check((2, 3), (("3/2", "1/3"), ("3/2", "7/3")),
                   (1, 0, ("3/2", "1/3"), ("3/2", 1)), (1, 1, ("3/2", 1), ("3/2", 2)),
                   (1, 2, ("3/2", 2), ("3/2", "7/3")))

    def test_slanting(self):
        self.check((3, 3), (("1/2", "1/2"), ("5/2", "3/2")),
                   (0, 0, ("1/2", "1/2"), (1, "3/4")), (1, 0, (1, "3/4"), ("3/2", 1)),
                   (1, 1, ("3/2", 1), (2, "5/4")), (2, 1, (2, "5/4"), ("5/2", "3/2")))
        self.check((3, 3), (("5/2", "1/2"), ("1/2", "3/2")),
                   (2, 0, ("5/2", "1/2"), (2, "3/4")), (1, 0, (2, "3/4"), ("3/2", 1)),
                   (1, 1, ("3/2", 1), (1, "5/4")), (0, 1, (1, "5/4"), ("1/2", "3/2")))

    def test_on_an_upright_line_of_the_floor_not_cut_by_that_one(self):
        self.check((3, 3), ((1, "1/2"), (1, "5/2")),
                   (1, 0, (1, "1/2"), (1, 1)), (1, 1, (1, 1), (1, 2)), (1, 2, (1, 2), (1, "5/2")))
        self.check((3, 3), ((0, 0), (0, 1)), (0, 0, (0, 0), (0, 1)))
        self.check((3, 3), ((3, 0), (3, 1)))

    def test_on_a_level_line_of_the_floor_not_cut_by_that_one(self):
        self.check((3, 3), (("1/2", 1), ("5/2", 1)),
                   (0, 1, ("1/2", 1), (1, 1)), (1, 1, (1, 1), (2, 1)), (2, 1, (2, 1), ("5/2", 1)))
        self.check((3, 3), ((0, 0), (1, 0)), (0, 0, (0, 0), (1, 0)))
        self.check((3, 3), ((0, 3), (1, 3)))

    def test_through_corners_cut_there_once(self):
        self.check((3, 3), ((0, 0), (3, 3)),
                   (0, 0, (0, 0), (1, 1)), (1, 1, (1, 1), (2, 2)), (2, 2, (2, 2), (3, 3)))
        self.check((3, 3), ((0, 3), (3, 0)),
                   (0, 2, (0, 3), (1, 2)), (1, 1, (1, 2), (2, 1)), (2, 0, (2, 1), (3, 0)))
        self.check((4, 2), ((0, 0), (4, 2)),
                   (0, 0, (0, 0), (1, "1/2")), (1, 0, (1, "1/2"), (2, 1)),
                   (2, 1, (2, 1), (3, "3/2")), (3, 1, (3, "3/2"), (4, 2)))
        self.check((2, 2), (("1/2", "3/2"), ("3/2", "1/2")),
                   (0, 1, ("1/2", "3/2"), (1, 1)), (1, 0, (1, 1), ("3/2", "1/2")))

    def test_begin_or_end_on_a_line(self):
        self.check((3, 3), ((1, "1/2"), (2, "3/4")), (1, 0, (1, "1/2"), (2, "3/4")))
        self.check((3, 3), (("1/2", 1), ("3/4", 2)), (0, 1, ("1/2", 1), ("3/4", 2)))
        self.check((3, 3), ((1, 1), (2, 2)), (1, 1, (1, 1), (2, 2)))
        self.check((3, 3), ((1, "1/2"), ("1/2", "1/4")), (0, 0, (1, "1/2"), ("1/2", "1/4")))
        self.check((3, 3), ((2, 1), ("1/2", 1)), (1, 1, (2, 1), (1, 1)), (0, 1, (1, 1), ("1/2", 1)))

    def test_wholly_left_of_the_floor_column_minus_one(self):
        self.check((3, 3), (("-7/2", "1/2"), ("-1/2", "3/2")),
                   (-1, 0, ("-7/2", "1/2"), (-2, 1)), (-1, 1, (-2, 1), ("-1/2", "3/2")))
        self.check((3, 3), ((-5, "1/4"), (-5, "3/4")), (-1, 0, (-5, "1/4"), (-5, "3/4")))
        self.check((3, 3), ((-5, "1/4"), (-2, "1/4")), (-1, 0, (-5, "1/4"), (-2, "1/4")))
        self.check((3, 3), ((-5, -5), (-5, -4)))
        self.check((3, 3), ((-5, 3), (-4, 4)))

    def test_wholly_right_above_and_below_none(self):
        for side in ((("7/2", "1/2"), (5, "5/2")), ((4, 0), (4, 3)), ((3, 0), (4, 2)), (("1/2", "7/2"), ("5/2", 9)),
                     ((0, 4), (3, 4)), ((-1, 3), (5, 4)), (("1/2", "-1/2"), ("5/2", -4)), ((0, -1), (3, -1)),
                     ((-9, 0), (9, "-1/9"))):
            self.check((3, 3), side)

    def test_in_from_the_left_and_out(self):
        self.check((2, 2), ((-2, "1/2"), (1, "1/2")), (-1, 0, (-2, "1/2"), (0, "1/2")), (0, 0, (0, "1/2"), (1, "1/2")))
        self.check((1, 1), ((-1, "1/2"), (2, "1/2")), (-1, 0, (-1, "1/2"), (0, "1/2")), (0, 0, (0, "1/2"), (1, "1/2")))
        self.check((2, 2), ((-1, "-1/2"), (1, "3/2")),
                   (-1, 0, ("-1/2", 0), (0, "1/2")), (0, 0, (0, "1/2"), ("1/2", 1)), (0, 1, ("1/2", 1), (1, "3/2")))

    def test_in_from_the_right_and_out(self):
        self.check((2, 2), (("7/2", "1/2"), ("3/2", "1/4")), (1, 0, (2, "5/16"), ("3/2", "1/4")))
        self.check((2, 2), ((5, "1/2"), (0, "1/2")), (1, 0, (2, "1/2"), (1, "1/2")), (0, 0, (1, "1/2"), (0, "1/2")))

    def test_in_from_above_and_below_and_out(self):
        self.check((2, 2), (("1/2", 4), ("1/2", "3/2")), (0, 1, ("1/2", 2), ("1/2", "3/2")))
        self.check((2, 2), (("1/2", -4), ("1/2", "1/2")), (0, 0, ("1/2", 0), ("1/2", "1/2")))
        self.check((2, 2), (("1/2", -1), ("1/2", 3)), (0, 0, ("1/2", 0), ("1/2", 1)), (0, 1, ("1/2", 1), ("1/2", 2)))
        self.check((2, 1), ((1, -1), (2, 2)), (1, 0, ("4/3", 0), ("5/3", 1)))

    def test_out_over_the_floor_and_in_again_never(self):
        self.check((2, 2), ((-1, 1), (1, 3)), (-1, 1, (-1, 1), (0, 2)))
        self.check((2, 2), ((1, 3), (3, 1)))

    def test_a_floor_of_one_by_one(self):
        self.check((1, 1), ((0, 0), (1, 1)), (0, 0, (0, 0), (1, 1)))
        self.check((1, 1), ((-2, -1), (3, 2)),
                   (-1, 0, ("-1/3", 0), (0, "1/5")), (0, 0, (0, "1/5"), (1, "4/5")))

    def test_a_floor_of_twelve_by_twelve(self):
        told = pieces(12, 12, side_of((0, 0), (12, 12)))
        self.assertEqual([piece[:2] for piece in told], [(k, k) for k in range(12)])
        told = pieces(12, 12, side_of(("23/2", -1), ("23/2", 13)))
        self.assertEqual([piece[:2] for piece in told], [(11, k) for k in range(12)])
        told = pieces(12, 12, side_of((-1, "23/2"), (13, "23/2")))
        self.assertEqual([piece[:2] for piece in told], [(k, 11) for k in range(-1, 12)])
        self.check_by_words((12, 12), side_of(("-1/2", "1/3"), ("38/3", "47/4")))
        self.assertEqual(len(pieces(12, 12, side_of(("1/2", "1/3"), ("35/3", "47/4")))), 23)

    def test_far_away_from_the_floor(self):
        self.check((2, 2), ((-FAR, "1/2"), (FAR, "1/2")),
                   (-1, 0, (-FAR, "1/2"), (0, "1/2")), (0, 0, (0, "1/2"), (1, "1/2")), (1, 0, (1, "1/2"), (2, "1/2")))
        self.check((1, 1), ((-FAR, -FAR), (FAR, FAR)), (0, 0, (0, 0), (1, 1)))
        self.check((1, 1), (("1/2", -FAR), ("1/2", FAR)), (0, 0, ("1/2", 0), ("1/2", 1)))
        self.check((1, 2), ((-FAR, 0), (-FAR, 1)), (-1, 0, (-FAR, 0), (-FAR, 1)))
        self.check((1, 1), ((FAR, 0), (FAR + 1, 1)))
        self.check((1, 1), ((-FAR, -FAR), (-FAR, -FAR - 1)))
        self.check_by_words((5, 4), side_of((-FAR, "1/7"), (FAR + 3, 3)))
        self.check_by_words((5, 4), side_of(("1/7", -FAR), (3, FAR + 5)))

    def test_with_thirty_figures(self):
        for side in (side_of((-THIRTY, -THIRTY - 1), (THIRTY + 7, THIRTY + 9)),
                     side_of((Fraction(1, THIRTY), Fraction(3, THIRTY)), (Fraction(3 * THIRTY, THIRTY + 1), "7/3")),
                     side_of((Fraction(THIRTY, THIRTY + 1), 3), (Fraction(THIRTY + 1, THIRTY), 0))):
            self.check_by_words((4, 3), side)
            self.assertGreater(len(pieces(4, 3, side)), 2)

    def test_many(self):
        drawn = Drawn(13)
        for _ in range(400):
            floor = (drawn.chance.randint(1, 6), drawn.chance.randint(1, 6))
            self.check_by_words(floor, (drawn.point(-3, 8), drawn.point(-3, 8)))

    def test_all_between_few_points(self):
        few = [(Fraction(x, 2), Fraction(y, 2)) for x in range(-2, 6) for y in range(-2, 6)]
        for start in few:
            for end in few:
                side = side_of(start, end)
                self.assertEqual(pieces(2, 1, side), pieces_by_words(2, 1, side))

    def test_the_ends_meet_and_are_the_sides_own(self):
        drawn = Drawn(14)
        for _ in range(100):
            side = (drawn.point(0, 5), drawn.point(0, 5))
            told = pieces(6, 6, side)
            if told:
                self.assertEqual((told[0][2], told[-1][3]), side)
            for one, other in zip(told, told[1:]):
                self.assertEqual(one[3], other[2])

    def test_the_told_list_is_the_askers_own(self):
        for side in (side_of((0, 0), (5, 3)), side_of((1, 1), (1, 1)), side_of((0, 9), (1, 9))):
            check_own(self, pieces, 4, 4, side)


class FallsAndRights(unittest.TestCase):
    def check(self, piece, fallen, righted):
        check_ratio(self, fall(piece_of(*piece)), Fraction(fallen))
        check_ratio(self, right(piece_of(*piece)), Fraction(righted))

    def test_a_piece_that_falls(self):
        self.check((0, 0, ("1/2", "3/4"), ("1/2", "1/4")), "1/2", "1/4")
        self.check((2, 1, ("9/4", 2), ("11/4", "4/3")), "2/3", "1/3")
        self.check((3, 0, (3, 1), ("10/3", 0)), 1, "5/6")
        self.check((1, 5, (2, 6), ("5/4", 5)), 1, "3/8")

    def test_a_piece_that_rises(self):
        self.check((0, 0, ("1/2", "1/4"), ("1/2", "3/4")), "-1/2", "-1/4")
        self.check((2, 1, ("11/4", "4/3"), ("9/4", 2)), "-2/3", "-1/3")
        self.check((0, 0, (0, 0), (0, 1)), -1, -1)

    def test_a_piece_that_is_level(self):
        self.check((4, 2, (4, "5/2"), (5, "5/2")), 0, 0)
        self.check((-1, 2, (-9, 2), (-5, 2)), 0, 0)

    def test_in_column_minus_one(self):
        self.check((-1, 0, (-9, 1), ("-1/2", "1/3")), "2/3", 0)
        self.check((-1, 0, (-9, "1/3"), (-7, 1)), "-2/3", 0)
        self.check((-1, 0, (-1, 0), (0, 1)), -1, 0)
        self.check((-1, 0, (-FAR, 0), (-FAR, 1)), -1, 0)

    def test_with_thirty_figures(self):
        low, wide = Fraction(1, THIRTY), Fraction(1, THIRTY + 1)
        self.check((0, 0, (wide, 1), (0, low)), 1 - low, (1 - low) * (1 - wide / 2))

    def test_of_many_pieces(self):
        drawn = Drawn(15)
        for _ in range(200):
            for piece in pieces(5, 5, (drawn.point(-2, 7), drawn.point(-2, 7))):
                (x, y), (across, up) = exact_point(piece[2]), exact_point(piece[3])
                check_ratio(self, fall(piece), y - up)
                reach = 0 if piece[0] == -1 else piece[0] + 1 - (x + across) / 2
                check_ratio(self, right(piece), (y - up) * reach)


if __name__ == "__main__":
    unittest.main()
