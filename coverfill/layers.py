"""Layers: what is laid on a floor, a film at each cell; a layer never changes."""

from coverfill.films import alone, clear_film, cover, ink_film, joined, mixed, rub_film
from coverfill.ratios import ONE, times
from coverfill.sums import shares


def own_shape(shape):
    # Whoever handed the shape in may change its lists behind, and the layer stays what it was.
    return [list(ring) for ring in shape]


def strength_or_one(strength):
    return ONE if strength is None else strength


def each_changed(rows, change):
    """Rows of what the change makes of what stands at each cell."""
    return [[change(one) for one in row] for row in rows]


def put_together(some, others, make):
    """Rows of what is made, at each cell, of what stands there in the one rows and in the other ones."""
    rows = []
    for row in range(len(some)):
        rows.append([make(some[row][column], others[row][column]) for column in range(len(some[row]))])
    return rows


def covers(width, height, shape):
    return each_changed(shares(width, height, shape), cover)


def thinned_covers(width, height, shape, strength):
    return each_changed(covers(width, height, shape), lambda s: times(s, strength))


def clear_films(width, height):
    return [[clear_film() for column in range(width)] for row in range(height)]


def joined_films(width, height, layers):
    """The films of the layers joined on one another, the first layer's beneath; of none the clear ones."""
    rows = clear_films(width, height)
    for layer in layers:
        rows = put_together(layer.films(width, height), rows, joined)
    return rows


def touched_cells(rows):
    """The cells (column, row) that have another film than the clear one, row by row, in a row by columns."""
    touched = []
    for row in range(len(rows)):
        for column in range(len(rows[row])):
            if rows[row][column] != clear_film():
                touched.append((column, row))
    return touched


class Layer:
    """The base of all layers; by itself it leaves every ground as it is."""

    def films(self, width, height):
        """The film at each cell: a list of rows, the lowest one first, each a list of films, column by column."""
        return clear_films(width, height)

    def touched(self, width, height):
        """The cells (column, row) where the layer's film is not the clear one, row by row, in a row by columns."""
        return touched_cells(self.films(width, height))


class Fill(Layer):
    """An ink on what a shape covers."""

    def __init__(self, shape, ink, strength=None):
        self.shape = own_shape(shape)
        self.ink = ink
        self.strength = strength_or_one(strength)

    def films(self, width, height):
        thinned = thinned_covers(width, height, self.shape, self.strength)
        return each_changed(thinned, lambda s: ink_film(s, self.ink))


class Rub(Layer):
    """What lies beneath is rubbed out where a shape covers it."""

    def __init__(self, shape, strength=None):
        self.shape = own_shape(shape)
        self.strength = strength_or_one(strength)

    def films(self, width, height):
        return each_changed(thinned_covers(width, height, self.shape, self.strength), rub_film)


class Masked(Layer):
    """Another layer, as far as a shape covers the cells."""

    def __init__(self, shape, layer):
        self.shape = own_shape(shape)
        self.layer = layer

    def films(self, width, height):
        return put_together(self.layer.films(width, height), covers(width, height, self.shape), mixed)


class Join(Layer):
    """Layers over one another, the first one lowest, laid on by a strength."""

    def __init__(self, layers, strength=None):
        self.layers = list(layers)
        self.strength = strength_or_one(strength)

    def films(self, width, height):
        return each_changed(joined_films(width, height, self.layers), lambda film: mixed(film, self.strength))


class Group(Layer):
    """Layers over one another, the first one lowest, of which only what they add is laid on, by a strength."""

    def __init__(self, layers, strength=None):
        self.layers = list(layers)
        self.strength = strength_or_one(strength)

    def films(self, width, height):
        return each_changed(joined_films(width, height, self.layers), lambda film: alone(film, self.strength))
