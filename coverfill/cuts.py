"""Cutting: rings and shapes cut by lines and to windows."""

from coverfill.ratios import NOUGHT, ONE, minus, parted, plus, times, under


def negative(one):
    return minus(NOUGHT, one)


def height_over(line, P):
    """How far the point lies over the line, below nought where it lies beneath."""
    return minus(plus(times(line[0], P[0]), times(line[1], P[1])), line[2])


def lies_over(height):
    return under(NOUGHT, height)


def lies_beneath(height):
    return under(height, NOUGHT)


def crosses(height, other):
    """Whether a side between points of these heights crosses the line, beyond a mere touch of its ends."""
    if lies_over(height):
        return lies_beneath(other)
    return lies_beneath(height) and lies_over(other)


def part_way(one, other, part):
    return plus(one, times(part, minus(other, one)))


def meeting_point(side, height, other):
    """Where the side meets the line, of which its begin and its end have these heights."""
    start = side[0]
    end = side[1]
    part = parted(height, minus(height, other))
    return (part_way(start[0], end[0], part), part_way(start[1], end[1], part))


def cut(ring, line):
    """The ring of what does not lie over the line."""
    heights = [height_over(line, point) for point in ring]
    kept = []
    for k in range(len(ring)):
        behind = (k + 1) % len(ring)
        if not lies_over(heights[k]):
            kept.append(ring[k])
        if crosses(heights[k], heights[behind]):
            kept.append(meeting_point((ring[k], ring[behind]), heights[k], heights[behind]))
    return kept


def cut_shape(shape, line):
    """The rings of the shape so cut, also those of which nothing is left."""
    return [cut(ring, line) for ring in shape]


def against(line):
    """The line that has over it what lies beneath this one."""
    return (negative(line[0]), negative(line[1]), negative(line[2]))


def window(ring, left, right, low, high):
    """The ring cut to x from left to right and y from low to high."""
    kept = cut(ring, against((ONE, NOUGHT, left)))
    kept = cut(kept, (ONE, NOUGHT, right))
    kept = cut(kept, against((NOUGHT, ONE, low)))
    return cut(kept, (NOUGHT, ONE, high))


def window_shape(shape, left, right, low, high):
    """The rings of the shape so cut, also those of which nothing is left."""
    return [window(ring, left, right, low, high) for ring in shape]
