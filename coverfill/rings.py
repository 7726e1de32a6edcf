"""Rings and shapes: their sides and their areas."""

from coverfill.ratios import HALF, minus, times, total


def sides(ring):
    """The tuples (P, Q) from each point to the next one, and from the last one to the first."""
    return list(zip(ring, ring[1:] + ring[:1]))


def turn(side):
    """Twice the area that the side sweeps, seen from the point of two noughts."""
    start = side[0]
    end = side[1]
    return minus(times(start[0], end[1]), times(end[0], start[1]))


def area(ring):
    """The area within the ring, below nought where it goes round to the right."""
    return times(HALF, total([turn(side) for side in sides(ring)]))


def shape_area(shape):
    """The sum of the areas of the shape's rings."""
    return total([area(ring) for ring in shape])
