"""What several test files ask of told values, and ratios, points, lines and shapes made in short."""

import copy
import random
from fractions import Fraction


def as_ratio(number):
    """The ratio of a whole number, a Fraction or a text like 3/2, made apart from the program."""
    exact = Fraction(number)
    return (exact.numerator, exact.denominator)


def point(x, y):
    return (as_ratio(x), as_ratio(y))


def ring_of(*pairs):
    return [point(x, y) for x, y in pairs]


def line_of(a, b, c):
    return (as_ratio(a), as_ratio(b), as_ratio(c))


def box(left, right, low, high):
    """The box as a ring that goes round to the left."""
    return ring_of((left, low), (right, low), (right, high), (left, high))


def exact_point(told):
    return (Fraction(*told[0]), Fraction(*told[1]))


def exact_height(line, told):
    a, b, c = [Fraction(*part) for part in line]
    x, y = exact_point(told)
    return a * x + b * y - c


def area_by_strips(ring):
    """The area by another way than the program's: strips between each side and the line of height nought."""
    exact = [exact_point(one) for one in ring]
    following = exact[1:] + exact[:1]
    return sum(((p[0] - q[0]) * (p[1] + q[1]) / 2 for p, q in zip(exact, following)), Fraction(0))


def reach_between(start, end, column):
    """The mean, over an even way from start to end, of how far the cell's right end lies beyond x, held in 0 to 1."""
    low, high = sorted((column + 1 - start, column + 1 - end))
    if low == high:
        return min(max(low, Fraction(0)), Fraction(1))

    def area_up_to(bound):
        held = min(max(bound, Fraction(0)), Fraction(1))
        return held * held / 2 + max(bound - 1, Fraction(0))

    return (area_up_to(high) - area_up_to(low)) / (high - low)


def share_by_strips(column, row, shape):
    """A cell's share by another way than the program's: each side held to the row, then averaged over the cell."""
    told = Fraction(0)
    for ring in shape:
        exact = [exact_point(one) for one in ring]
        for (x, y), (across, up) in zip(exact, exact[1:] + exact[:1]):
            if y == up:
                continue
            ends = [min(max(end, Fraction(row)), Fraction(row + 1)) for end in (y, up)]
            places = [x + (end - y) * (across - x) / (up - y) for end in ends]
            told += (ends[0] - ends[1]) * reach_between(*places, column)
    return told


class Drawn:
    """Shapes, lines and numbers drawn from a fixed seed, so that each run sees the same ones."""

    def __init__(self, seed):
        self.chance = random.Random(seed)

    def number(self, low, high, bottoms=(1, 1, 2, 3, 4, 7)):
        bottom = self.chance.choice(bottoms)
        return Fraction(self.chance.randint(low * bottom, high * bottom), bottom)

    def point(self, low, high, bottoms=(1, 1, 2, 3, 4, 7)):
        return point(self.number(low, high, bottoms), self.number(low, high, bottoms))

    def ring(self, most, low, high, bottoms=(1, 1, 2, 3, 4, 7)):
        ring = [self.point(low, high, bottoms) for _ in range(self.chance.randint(0, most))]
        if ring and self.chance.random() < 0.2:
            ring.insert(self.chance.randrange(len(ring)), self.chance.choice(ring))
        return ring

    def shape(self, rings, most, low, high, bottoms=(1, 1, 2, 3, 4, 7)):
        return [self.ring(most, low, high, bottoms) for _ in range(self.chance.randint(0, rings))]

    def line(self, low, high):
        """A line that is one: a and b are not both nought."""
        while True:
            a, b = self.number(-3, 3), self.number(-3, 3)
            if a or b:
                return line_of(a, b, self.number(low, high))


def spoil(told):
    """Changes a told list, and each list within it, in whatever is in it."""
    for one in told:
        if isinstance(one, list):
            spoil(one)
    told.append("more")
    told.reverse()
    del told[1:]


def check_own(case, tell, *handed):
    """What is handed in stays, and neither a spoiled answer nor a spoiled argument changes another answer."""
    kept = copy.deepcopy(handed)
    first = tell(*handed)
    case.assertEqual(handed, kept)
    expected = copy.deepcopy(first)
    if isinstance(first, list):
        spoil(first)
    case.assertEqual(handed, kept)
    second = tell(*handed)
    case.assertEqual(second, expected)
    for one in handed:
        if isinstance(one, list):
            spoil(one)
    case.assertEqual(second, expected)
    case.assertEqual(tell(*kept), expected)


def check_lists_apart(case, told):
    """No list stands in the told one twice."""
    lists = [told] + [one for one in told if isinstance(one, list)]
    case.assertEqual(len({id(one) for one in lists}), len(lists))


def check_ratio(case, told, expected):
    """The told value is a tuple of two whole numbers, and just the ratio of what is expected."""
    case.assertIs(type(told), tuple)
    case.assertEqual(len(told), 2)
    for part in told:
        case.assertIs(type(part), int)
    # Not assertEqual: its words for a failure can't be made of numbers of thousands of figures.
    case.assertTrue(told == as_ratio(expected), "another ratio than expected")


def check_point(case, told):
    """The told value is a point: a tuple of two ratios in lowest terms."""
    case.assertIs(type(told), tuple)
    case.assertEqual(len(told), 2)
    for part in told:
        check_ratio(case, part, Fraction(*part))


def check_ring(case, told):
    case.assertIs(type(told), list)
    for one in told:
        check_point(case, one)
