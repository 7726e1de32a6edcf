"""Shares: how much of each cell of a floor a shape covers."""

from coverfill.ratios import NOUGHT, plus, total
from coverfill.rings import sides
from coverfill.walks import fall, pieces, right


def empty_lists(count):
    return [[] for k in range(count)]


def all_pieces(width, height, shape):
    found = []
    for ring in shape:
        for side in sides(ring):
            found.extend(pieces(width, height, side))
    return found


def row_of_shares(falls, rights):
    """The shares of one row, of the falls and the rights of its pieces, listed by columns from -1 on."""
    told = []
    fallen = NOUGHT
    for column in range(len(falls) - 1):
        # The lists begin with column -1, so here stand the falls of the column ahead of this one.
        fallen = plus(fallen, total(falls[column]))
        told.append(plus(fallen, total(rights[column + 1])))
    return told


def shares(width, height, shape):
    """The share of each cell: a list of rows, the lowest one first, each a list of ratios, column by column."""
    falls = [empty_lists(width + 1) for row in range(height)]
    rights = [empty_lists(width + 1) for row in range(height)]
    for piece in all_pieces(width, height, shape):
        place = piece[0] + 1
        falls[piece[1]][place].append(fall(piece))
        rights[piece[1]][place].append(right(piece))
    return [row_of_shares(falls[row], rights[row]) for row in range(height)]
