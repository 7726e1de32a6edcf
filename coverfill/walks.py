"""The walk along a side: its pieces on a floor, and what each piece adds to its row."""

from coverfill.ratios import HALF, NOUGHT, minus, parted, plus, times, under, whole_part


def numbers_between(start, end, last):
    """The whole numbers from 0 to last that lie between two ratios, both left out, in order from start to end."""
    if under(end, start):
        return list(reversed(numbers_between(end, start, last)))
    return [number for number in range(last + 1) if under(start, (number, 1)) and under((number, 1), end)]


def rests_at(numbers, start, end, rest, rest_end):
    """Of a side from (start, rest) to (end, rest_end): its second values where its first ones are these numbers."""
    # Ahead of the quotient, since a side that crosses none of the lines may lie along them.
    if len(numbers) == 0:
        return []
    slope = parted(minus(rest_end, rest), minus(end, start))
    return [plus(rest, times(slope, minus((number, 1), start))) for number in numbers]


def upright_crossings(side, width):
    """Where the side crosses the lines x = 0 to x = width, but at its ends, in order."""
    start = side[0]
    end = side[1]
    numbers = numbers_between(start[0], end[0], width)
    heights = rests_at(numbers, start[0], end[0], start[1], end[1])
    return [((numbers[k], 1), heights[k]) for k in range(len(numbers))]


def level_crossings(side, height):
    """Where the side crosses the lines y = 0 to y = height, but at its ends, in order."""
    start = side[0]
    end = side[1]
    numbers = numbers_between(start[1], end[1], height)
    widths = rests_at(numbers, start[1], end[1], start[0], end[0])
    return [(widths[k], (numbers[k], 1)) for k in range(len(numbers))]


def comes_ahead(one, other, to_the_right):
    """Whether a walk that goes to the right, or else to the left, meets the one point ahead of the other."""
    if to_the_right:
        return under(one[0], other[0])
    return under(other[0], one[0])


def made_one(some, others, to_the_right):
    """Two lists of points, each in order along one side that is not upright, as one; a point in both is taken once."""
    points = []
    k = 0
    for point in some:
        while k < len(others) and comes_ahead(others[k], point, to_the_right):
            points.append(others[k])
            k += 1
        # The side goes through a corner of cells, where it crosses two lines at one point.
        if k < len(others) and others[k] == point:
            k += 1
        points.append(point)
    return points + others[k:]


def stops(width, height, side):
    """The begin of the side, the points at which it is cut, and its end, in order."""
    start = side[0]
    end = side[1]
    crossed = made_one(upright_crossings(side, width), level_crossings(side, height), under(start[0], end[0]))
    return [start] + crossed + [end]


def middle(one, other):
    return times(HALF, plus(one, other))


def piece_between(start, end):
    column = whole_part(middle(start[0], end[0]))
    row = whole_part(middle(start[1], end[1]))
    return (max(column, -1), row, start, end)


def counts_on(width, height, piece):
    """Whether the piece lies in a row of the floor, on it or left of it: all others leave the shares as they are."""
    return piece[0] < width and 0 <= piece[1] < height


def pieces(width, height, side):
    """The tuples (column, row, A, B) of the side's parts, in order from its begin to its end."""
    if side[0] == side[1]:
        return []
    points = stops(width, height, side)
    parts = [piece_between(points[k], points[k + 1]) for k in range(len(points) - 1)]
    return [part for part in parts if counts_on(width, height, part)]


def fall(piece):
    """How far the piece goes down, below nought where it goes up: what it adds to each cell right of its own."""
    return minus(piece[2][1], piece[3][1])


def right(piece):
    """What the piece adds to its own cell: its fall times how far the cell reaches beyond it to the right."""
    column = piece[0]
    if column == -1:
        return NOUGHT
    return times(fall(piece), minus((column + 1, 1), middle(piece[2][0], piece[3][0])))
