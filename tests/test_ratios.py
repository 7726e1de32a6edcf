"""Point 4 (ratios made, sums, differences, products, quotients) and point 5 (order, bounds, whole part)."""

import unittest
from fractions import Fraction

from checks import as_ratio, check_ratio
from coverfill.errors import NoRatio
from coverfill.ratios import between, minus, parted, plus, ratio, times, total, under, whole_part

SMALL = sorted({Fraction(top, bottom) for top in range(-7, 8) for bottom in range(1, 7)})
THIRTY = 10 ** 29 + 7
# Powers of different primes have no common divisor, so their ratios are known without one being looked for.
TWOS = 2 ** 6600
THREES = 3 ** 4150
SEVENS = 7 ** 2300
# The least and the greatest number of four thousand figures.
LEAST = 10 ** 3999
GREATEST = 10 ** 4000 - 1


def neighbours_of_fibonacci(figures):
    """The last two numbers of the row below this many figures: no pair takes more steps to measure."""
    one, other = 1, 1
    while one + other < 10 ** figures:
        one, other = other, one + other
    return one, other


class Made(unittest.TestCase):
    def test_all_small_tops_and_bottoms_of_both_signs(self):
        for top in range(-30, 31):
            for bottom in list(range(-30, 0)) + list(range(1, 31)):
                check_ratio(self, ratio(top, bottom), Fraction(top, bottom))

    def test_lowest_terms_told_by_hand(self):
        self.assertEqual(ratio(6, 4), (3, 2))
        self.assertEqual(ratio(-6, 4), (-3, 2))
        self.assertEqual(ratio(6, -4), (-3, 2))
        self.assertEqual(ratio(-6, -4), (3, 2))
        self.assertEqual(ratio(5, 7), (5, 7))

    def test_top_nought(self):
        for bottom in (1, -1, 5, -5, THIRTY, -THIRTY, GREATEST):
            self.assertTrue(ratio(0, bottom) == (0, 1))

    def test_bottom_one_and_minus_one(self):
        self.assertEqual(ratio(9, 1), (9, 1))
        self.assertEqual(ratio(-9, 1), (-9, 1))
        self.assertEqual(ratio(9, -1), (-9, 1))
        self.assertEqual(ratio(-9, -1), (9, 1))

    def test_thirty_figures(self):
        self.assertEqual(ratio(THIRTY * 6, THIRTY * -4), (-3, 2))
        check_ratio(self, ratio(THIRTY, THIRTY + 1), Fraction(THIRTY, THIRTY + 1))

    def test_four_thousand_figures(self):
        self.assertTrue(ratio(TWOS * SEVENS, THREES * SEVENS) == (TWOS, THREES))
        self.assertTrue(ratio(TWOS * SEVENS, -THREES * SEVENS) == (-TWOS, THREES))
        self.assertTrue(ratio(GREATEST, GREATEST) == (1, 1))
        self.assertTrue(ratio(-GREATEST, GREATEST - 1) == (-GREATEST, GREATEST - 1))
        self.assertTrue(ratio(LEAST, -1) == (-LEAST, 1))

    def test_four_thousand_figures_that_take_the_most_steps(self):
        one, other = neighbours_of_fibonacci(4000)
        self.assertTrue(ratio(one, other) == (one, other))
        self.assertTrue(ratio(other, one) == (other, one))

    def test_bottom_nought_is_refused(self):
        for top in (0, 1, -1, THIRTY, GREATEST):
            with self.assertRaises(NoRatio):
                ratio(top, 0)


class Reckoned(unittest.TestCase):
    def test_all_small_ones(self):
        for one in SMALL:
            for other in SMALL:
                first, second = as_ratio(one), as_ratio(other)
                check_ratio(self, plus(first, second), one + other)
                check_ratio(self, minus(first, second), one - other)
                check_ratio(self, times(first, second), one * other)
                if other:
                    check_ratio(self, parted(first, second), one / other)

    def test_told_by_hand(self):
        self.assertEqual(plus((1, 6), (1, 3)), (1, 2))
        self.assertEqual(plus((1, 2), (-1, 2)), (0, 1))
        self.assertEqual(minus((1, 6), (2, 3)), (-1, 2))
        self.assertEqual(times((-2, 3), (3, 4)), (-1, 2))
        self.assertEqual(parted((1, 2), (-3, 4)), (-2, 3))
        self.assertEqual(parted((0, 1), (-3, 4)), (0, 1))

    def test_quotient_by_nought_is_refused(self):
        for one in ((1, 1), (-5, 3), (0, 1), (THIRTY, 2), (GREATEST, LEAST)):
            with self.assertRaises(NoRatio):
                parted(one, (0, 1))

    def test_large_ones(self):
        self.assertTrue(plus((1, TWOS), (1, THREES)) == (TWOS + THREES, TWOS * THREES))
        self.assertTrue(minus((1, TWOS), (1, THREES)) == (THREES - TWOS, TWOS * THREES))
        self.assertTrue(times((TWOS, THREES), (THREES, SEVENS)) == (TWOS, SEVENS))
        self.assertTrue(parted((TWOS, THREES), (-SEVENS, THREES)) == (-TWOS, SEVENS))
        self.assertTrue(plus((GREATEST, LEAST), (-GREATEST, LEAST)) == (0, 1))
        self.assertTrue(minus((GREATEST, 1), (GREATEST - 1, 1)) == (1, 1))
        self.assertTrue(times((LEAST, GREATEST), (GREATEST, LEAST)) == (1, 1))
        self.assertTrue(parted((LEAST, GREATEST), (LEAST, GREATEST)) == (1, 1))


class Totals(unittest.TestCase):
    def test_of_none_is_nought(self):
        self.assertEqual(total([]), (0, 1))
        check_ratio(self, total([]), 0)

    def test_of_one(self):
        for one in SMALL:
            check_ratio(self, total([as_ratio(one)]), one)

    def test_of_each_count_up_to_thirty(self):
        for count in range(31):
            some = [Fraction((-1) ** k * (k + 1), k + 2) for k in range(count)]
            check_ratio(self, total([as_ratio(one) for one in some]), sum(some, Fraction(0)))

    def test_of_ratios_that_come_to_nought(self):
        self.assertEqual(total([(1, 2), (1, 3), (-5, 6)]), (0, 1))

    def test_of_ratios_that_are_alike(self):
        self.assertEqual(total([(1, 6)] * 9), (3, 2))

    def test_of_large_ones(self):
        some = [(TWOS, THREES), (SEVENS, THREES), (-TWOS, THREES)]
        self.assertTrue(total(some) == (SEVENS, THREES))
        some = [Fraction(k + 1, THIRTY + k) for k in range(80)]
        check_ratio(self, total([as_ratio(one) for one in some]), sum(some))

    def test_the_list_stays_as_it_was(self):
        for count in range(6):
            some = [(k + 1, k + 2) for k in range(count)]
            kept = list(some)
            first = total(some)
            self.assertEqual(some, kept)
            self.assertEqual(total(some), first)

    def test_what_is_done_behind_to_the_list_changes_no_answer(self):
        some = [(1, 2), (1, 3)]
        told = total(some)
        some[0] = (5, 1)
        some.append((7, 1))
        self.assertEqual(told, (5, 6))
        self.assertEqual(total([(1, 2), (1, 3)]), (5, 6))
        self.assertEqual(total(some), (37, 3))


class Order(unittest.TestCase):
    def test_all_small_ones_either_way_round(self):
        for one in SMALL:
            for other in SMALL:
                self.assertIs(under(as_ratio(one), as_ratio(other)), one < other)

    def test_a_ratio_and_itself(self):
        for one in ((0, 1), (1, 2), (-1, 2), (THIRTY, 7), (GREATEST, LEAST)):
            self.assertIs(under(one, one), False)

    def test_large_ones_that_lie_close(self):
        low = (GREATEST - 2, GREATEST - 1)
        high = (GREATEST - 1, GREATEST)
        self.assertIs(under(low, high), True)
        self.assertIs(under(high, low), False)
        self.assertIs(under((-GREATEST, 1), (-LEAST, 1)), True)
        self.assertIs(under((-1, LEAST), (0, 1)), True)
        self.assertIs(under((1, LEAST), (0, 1)), False)


class Held(unittest.TestCase):
    def test_below_at_within_at_and_above(self):
        low, high = (-1, 3), (5, 2)
        self.assertEqual(between((-1, 2), low, high), low)
        self.assertEqual(between((-1, 3), low, high), (-1, 3))
        self.assertEqual(between((0, 1), low, high), (0, 1))
        self.assertEqual(between((7, 3), low, high), (7, 3))
        self.assertEqual(between((5, 2), low, high), (5, 2))
        self.assertEqual(between((13, 5), low, high), high)

    def test_low_and_high_alike(self):
        for one in ((-4, 1), (2, 3), (3, 4), (5, 6), (9, 1)):
            self.assertEqual(between(one, (3, 4), (3, 4)), (3, 4))

    def test_all_small_ones(self):
        few = SMALL[::5]
        for low in few:
            for high in few[few.index(low):]:
                for one in few:
                    told = between(as_ratio(one), as_ratio(low), as_ratio(high))
                    check_ratio(self, told, min(max(one, low), high))

    def test_large_ones(self):
        low, high = (GREATEST - 2, GREATEST - 1), (GREATEST - 1, GREATEST)
        self.assertTrue(between((1, 2), low, high) == low)
        self.assertTrue(between((1, 1), low, high) == high)
        self.assertTrue(between((-LEAST, 1), (-1, LEAST), (1, LEAST)) == (-1, LEAST))


class WholeParts(unittest.TestCase):
    def test_told_by_hand(self):
        cases = (((-1, 2), -1), ((1, 2), 0), ((0, 1), 0), ((3, 1), 3), ((-3, 1), -3), ((7, 2), 3), ((-7, 2), -4),
                 ((-1, THIRTY), -1), ((1, THIRTY), 0))
        for one, expected in cases:
            told = whole_part(one)
            self.assertIs(type(told), int)
            self.assertEqual(told, expected)

    def test_it_is_not_above_and_the_next_one_is(self):
        for one in SMALL:
            told = whole_part(as_ratio(one))
            self.assertTrue(told <= one < told + 1, one)

    def test_large_ones(self):
        seventh = LEAST * 7
        self.assertTrue(whole_part((seventh - 1, 7)) == LEAST - 1)
        self.assertTrue(whole_part((seventh, 1)) == seventh)
        self.assertTrue(whole_part((-seventh - 1, 7)) == -LEAST - 1)
        self.assertTrue(whole_part((-seventh + 1, 7)) == -LEAST)
        self.assertTrue(whole_part((-1, GREATEST)) == -1)


if __name__ == "__main__":
    unittest.main()
