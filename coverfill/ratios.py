"""Ratios: tuples (top, bottom) in lowest terms, the bottom from 1 on."""

from coverfill.errors import NoRatio

NOUGHT = (0, 1)
HALF = (1, 2)
ONE = (1, 1)


def common_measure(one, other):
    """The greatest whole number that divides both, of numbers from 0 on that are not both 0."""
    while other > 0:
        rest = one % other
        one = other
        other = rest
    return one


def ratio(top, bottom):
    if bottom == 0:
        raise NoRatio("the bottom of a ratio is not 0")
    measure = common_measure(abs(top), abs(bottom))
    # The sign belongs to the top, so a bottom below nought turns both.
    if bottom < 0:
        measure = -measure
    return (top // measure, bottom // measure)


def plus(one, other):
    return ratio(one[0] * other[1] + other[0] * one[1], one[1] * other[1])


def minus(one, other):
    return ratio(one[0] * other[1] - other[0] * one[1], one[1] * other[1])


def times(one, other):
    return ratio(one[0] * other[0], one[1] * other[1])


def parted(one, other):
    """The quotient; by nought it is refused with NoRatio."""
    return ratio(one[0] * other[1], one[1] * other[0])


def neighbours_added(some):
    """The sums of the first two, of the next two and so on; one left over at the end stays."""
    added = [plus(some[k], some[k + 1]) for k in range(0, len(some) - 1, 2)]
    if len(some) % 2 == 1:
        added.append(some[-1])
    return added


def total(some):
    """The sum of a list of ratios, nought of none."""
    # By pairs, since one sum that takes up ratio by ratio carries its long bottom through every step.
    sums = list(some)
    while len(sums) > 1:
        sums = neighbours_added(sums)
    return sums[0] if len(sums) == 1 else NOUGHT


def under(one, other):
    """Whether the one is less than the other."""
    return one[0] * other[1] < other[0] * one[1]


def between(one, low, high):
    """The one, held between low and high; high is not below low."""
    if under(one, low):
        return low
    if under(high, one):
        return high
    return one


def whole_part(one):
    """The greatest whole number that is not above the ratio."""
    return one[0] // one[1]
