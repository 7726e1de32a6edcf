"""Shapes changed: moved, scaled, quartered, mirrored, turned round."""

from coverfill.ratios import minus, plus, times


def point_by_point(shape, change):
    """The shape with each of its points put through the change."""
    return [[change(point) for point in ring] for ring in shape]


def moved(shape, across, up):
    return point_by_point(shape, lambda point: (plus(point[0], across), plus(point[1], up)))


def scaled(shape, by):
    return point_by_point(shape, lambda point: (times(point[0], by), times(point[1], by)))


def quartered(shape, height):
    """The shape turned to the left by a quarter, so that a floor of this height comes to lie on itself, turned."""
    return point_by_point(shape, lambda point: (minus(height, point[1]), point[0]))


def mirrored(shape, width):
    """The shape with left and right swapped, so that a floor of this width comes to lie on itself."""
    return point_by_point(shape, lambda point: (minus(width, point[0]), point[1]))


def turned_round(shape):
    """The shape with each of its rings walked from its last point to its first."""
    return [list(reversed(ring)) for ring in shape]
