"""Layers told twice: as the program makes them, and by the words of points 20 to 22, in Python's own fractions."""

from fractions import Fraction

from checks import as_ratio, share_by_strips
from coverfill.layers import Fill, Group, Join, Masked, Rub

CLEAR = (1, 0, 0, 0, 0)
CLEAR_GROUND = (0, 0, 0, 0)


def seen_by_words(film, ground):
    k, a, r, g, b = film
    return (a + k * ground[0], r + k * ground[1], g + k * ground[2], b + k * ground[3])


def joined_by_words(upper, lower):
    k1, a1, r1, g1, b1 = upper
    k2, a2, r2, g2, b2 = lower
    return (k1 * k2, a1 + k1 * a2, r1 + k1 * r2, g1 + k1 * g2, b1 + k1 * b2)


def mixed_by_words(film, t):
    k, a, r, g, b = film
    return (1 - t + t * k, t * a, t * r, t * g, t * b)


def alone_by_words(film, t):
    k, a, r, g, b = film
    return (1 - t * a, t * a, t * r, t * g, t * b)


# A recipe is a tuple: ("fill", shape, ink, strength), ("rub", shape, strength), ("masked", shape, recipe),
# ("join", recipes, strength) or ("group", recipes, strength); a strength is a number, or None where none is handed in.


def as_strength(strength):
    return None if strength is None else as_ratio(strength)


def made(recipe):
    """The layer of the recipe, as the program makes it."""
    kind, first, *others = recipe
    if kind == "fill":
        return Fill(first, others[0], as_strength(others[1]))
    if kind == "rub":
        return Rub(first, as_strength(others[0]))
    if kind == "masked":
        return Masked(first, made(others[0]))
    return {"join": Join, "group": Group}[kind]([made(one) for one in first], as_strength(others[0]))


def by_number(strength):
    return Fraction(1) if strength is None else Fraction(strength)


def cover_by_words(column, row, shape):
    return min(max(share_by_strips(column, row, shape), Fraction(0)), Fraction(1))


def film_by_words(recipe, column, row):
    """The recipe's film at a cell."""
    kind, first, *others = recipe
    if kind == "fill":
        s = cover_by_words(column, row, first) * by_number(others[1])
        return (1 - s, s) + tuple(s * part for part in others[0])
    if kind == "rub":
        return (1 - cover_by_words(column, row, first) * by_number(others[0]), 0, 0, 0, 0)
    if kind == "masked":
        return mixed_by_words(film_by_words(others[0], column, row), cover_by_words(column, row, first))
    film = CLEAR
    for one in first:
        film = joined_by_words(film_by_words(one, column, row), film)
    return {"join": mixed_by_words, "group": alone_by_words}[kind](film, by_number(others[0]))


def films_by_words(recipe, width, height):
    """The recipe's films by cells (column, row)."""
    return {(column, row): film_by_words(recipe, column, row) for row in range(height) for column in range(width)}


def in_order(cells):
    """Row by row from the lowest, in a row by columns."""
    return sorted(cells, key=lambda cell: (cell[1], cell[0]))


def touched_by_words(films):
    return in_order([cell for cell, film in films.items() if film != CLEAR])


class PictureByWords:
    """A picture by the words of points 24 and 25; of each thing that is laid the function tells the films by cells."""

    def __init__(self, films_of):
        self.films_of = films_of
        self.row = []
        self.known = 0
        self.touched = set()

    def touch(self, thing):
        self.touched |= set(touched_by_words(self.films_of(thing)))

    def numbers(self):
        return [number for number, thing in self.row]

    def place_of(self, number):
        return self.numbers().index(number)

    def thing_by(self, number):
        return self.row[self.place_of(number)][1]

    def add(self, thing):
        self.touch(thing)
        self.row.append((self.known, thing))
        self.known += 1
        return self.known - 1

    def drop(self, number):
        self.touch(self.row.pop(self.place_of(number))[1])

    def change(self, number, thing):
        place = self.place_of(number)
        self.touch(self.row[place][1])
        self.touch(thing)
        self.row[place] = (number, thing)

    def lift(self, number, place):
        before = self.numbers()
        entry = self.row.pop(self.place_of(number))
        self.row.insert(place, entry)
        if self.numbers() != before:
            self.touch(entry[1])

    def renew(self):
        told, self.touched = in_order(self.touched), set()
        return told

    def ground(self, column, row):
        """The ground that all layers make now, made anew each time."""
        ground = CLEAR_GROUND
        for number, thing in self.row:
            ground = seen_by_words(self.films_of(thing)[column, row], ground)
        return ground


def drawn_strength(drawn):
    return drawn.chance.choice((None, None, 0, 1, Fraction(1, 2), Fraction(2, 3), Fraction(1, 255), Fraction(9, 10)))


def drawn_ink(drawn):
    return tuple(drawn.chance.choice((0, 255, drawn.chance.randint(0, 255))) for _ in range(3))


def drawn_recipe(drawn, deep, low=-1, high=5):
    """A recipe that is so deep, where one layer stands in each other one at least."""
    shape = drawn.shape(3, 6, low, high)
    if deep == 1:
        if drawn.chance.random() < 0.3:
            return ("rub", shape, drawn_strength(drawn))
        return ("fill", shape, drawn_ink(drawn), drawn_strength(drawn))
    kind = drawn.chance.choice(("masked", "join", "group"))
    inner = drawn_recipe(drawn, deep - 1, low, high)
    if kind == "masked":
        return (kind, shape, inner)
    others = [drawn_recipe(drawn, drawn.chance.randint(1, deep - 1), low, high)
              for _ in range(drawn.chance.randint(0, 2))]
    others.insert(drawn.chance.randint(0, len(others)), inner)
    return (kind, others, drawn_strength(drawn))
