"""Windings: how often a shape goes round a point."""

from coverfill.cuts import meeting_point
from coverfill.ratios import minus, under
from coverfill.rings import sides


def passes_left(side, P):
    """Whether a side, of which one end alone lies above the point's height, is left of the point at that height."""
    meeting = meeting_point(side, minus(side[0][1], P[1]), minus(side[1][1], P[1]))
    return under(meeting[0], P[0])


def turns_round(side, P):
    """What the side adds to the winding: 1 where it goes down left of the point, -1 where it goes up there, else 0."""
    starts_above = under(P[1], side[0][1])
    ends_above = under(P[1], side[1][1])
    if starts_above == ends_above or not passes_left(side, P):
        return 0
    return 1 if starts_above else -1


def winding(shape, P):
    """The count of times that the rings go round the point to the left, less those to the right."""
    return sum([sum([turns_round(side, P) for side in sides(ring)]) for ring in shape])
