"""What several test files ask of a told ratio, and ratios and points made in short."""

from fractions import Fraction


def as_ratio(number):
    """The ratio of a whole number, a Fraction or a text like 3/2, made apart from the program."""
    exact = Fraction(number)
    return (exact.numerator, exact.denominator)


def point(x, y):
    return (as_ratio(x), as_ratio(y))


def ring_of(*pairs):
    return [point(x, y) for x, y in pairs]


def check_ratio(case, told, expected):
    """The told value is a tuple of two whole numbers, and just the ratio of what is expected."""
    case.assertIs(type(told), tuple)
    case.assertEqual(len(told), 2)
    for part in told:
        case.assertIs(type(part), int)
    # Not assertEqual: its words for a failure can't be made of numbers of thousands of figures.
    case.assertTrue(told == as_ratio(expected), "another ratio than expected")
