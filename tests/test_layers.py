"""Point 22 (layers and their films), point 23 (the cells that a layer touches), and point 2 for both."""

import copy
import unittest
from fractions import Fraction

from checks import Drawn, as_ratio, box, check_lists_apart, check_ratio, ring_of, spoil
from coverfill.films import clear_film
from coverfill.layers import Fill, Group, Join, Layer, Masked, Rub
from recipes import CLEAR, drawn_recipe, films_by_words, made, touched_by_words

FLOORS = ((1, 1), (1, 4), (3, 2), (5, 1), (4, 4))
STRENGTHS = (None, 0, 1, Fraction(1, 2), Fraction(2, 3), Fraction(1, 10 ** 29 + 33))
INK = (255, 0, 10)
RED = (255, 0, 0)
GREEN = (0, 255, 0)
BLUE = (0, 0, 255)
HALF = (1, 2)
LEFT_HALF = [box(0, "1/2", 0, 1)]
SLANTING = ring_of((0, 0), (4, 1), ("7/2", 3), ("1/3", "5/2"))
# Of each kind that point 22 can meet: without rings or points, within a cell, over the whole floor, beyond it, beside
# it, turned round, twice over itself, with a hole, crossing itself.
SHAPES = ([], [[]], [ring_of((1, 1))], [box("1/4", "3/4", "1/4", "3/4")], [box(0, 4, 0, 4)], [box(-9, 20, -7, 30)],
          [box(50, 60, 0, 4)], [box(0, 4, 0, 4)[::-1]], [SLANTING], [SLANTING[::-1]], [SLANTING, SLANTING],
          [box(0, "3/4", 0, 4)] * 2, [box(0, 4, 0, 3), box(1, 2, 1, 2)[::-1]],
          [ring_of((0, 0), (4, 4), (4, 0), (0, 3), (2, -1))])


class Layers(unittest.TestCase):
    def check_kinds(self, told, floor):
        """A list of rows of films, in lowest terms, none of these lists twice."""
        self.assertIs(type(told), list)
        self.assertEqual(len(told), floor[1])
        for row in told:
            self.assertIs(type(row), list)
            self.assertEqual(len(row), floor[0])
            for film in row:
                self.assertIs(type(film), tuple)
                self.assertEqual(len(film), 5)
                for part in film:
                    check_ratio(self, part, Fraction(*part))
                k, a, r, g, b = [Fraction(*part) for part in film]
                self.assertTrue(k >= 0 and a >= 0 and k + a <= 1 and 0 <= min(r, g, b) <= max(r, g, b) <= 255 * a)
        check_lists_apart(self, told)

    def check(self, layer, floor, expected):
        """The films expected stand here as they are seen, the highest row first."""
        told = layer.films(*floor)
        self.check_kinds(told, floor)
        rows = [[tuple(as_ratio(part) for part in film) for film in row] for row in reversed(expected)]
        self.assertEqual(told, rows)
        self.check_touched(layer, floor, rows)

    def check_touched(self, layer, floor, rows):
        told = layer.touched(*floor)
        self.assertIs(type(told), list)
        self.assertEqual(told, [(column, row) for row in range(floor[1]) for column in range(floor[0])
                                if rows[row][column] != clear_film()])
        for cell in told:
            self.assertIs(type(cell), tuple)

    def check_recipe(self, recipe, floor):
        layer = made(recipe)
        expected = films_by_words(recipe, *floor)
        told = layer.films(*floor)
        self.check_kinds(told, floor)
        for (column, row), film in expected.items():
            self.assertTrue(told[row][column] == tuple(as_ratio(part) for part in film), (recipe, column, row))
        self.assertEqual(layer.touched(*floor), touched_by_words(expected))

    def each_floor_and_shape(self):
        for floor in FLOORS:
            for shape in SHAPES:
                yield floor, shape


class Kinds(unittest.TestCase):
    def test_all_stand_under_layer(self):
        for kind in (Fill, Rub, Masked, Join, Group):
            self.assertTrue(issubclass(kind, Layer))
        for layer in (Fill([], INK), Rub([]), Masked([], Rub([])), Join([]), Group([])):
            self.assertIsInstance(layer, Layer)


class Fills(Layers):
    def test_ordinary(self):
        self.check(Fill(LEFT_HALF, INK), (2, 2), [[CLEAR, CLEAR], [("1/2", "1/2", "255/2", 0, 5), CLEAR]])
        self.check(Fill([box(1, 2, "1/3", 2)], (3, 6, 9)), (2, 2),
                   [[CLEAR, (0, 1, 3, 6, 9)], [CLEAR, ("1/3", "2/3", 2, 4, 6)]])

    def test_strengths(self):
        for strength, film in ((None, ("1/2", "1/2", "255/2", 0, 5)), ((0, 1), CLEAR),
                               ((1, 1), ("1/2", "1/2", "255/2", 0, 5)), (HALF, ("3/4", "1/4", "255/4", 0, "5/2")),
                               ((2, 3), ("2/3", "1/3", 85, 0, "10/3"))):
            self.check(Fill(LEFT_HALF, INK, strength), (1, 1), [[film]])
        self.check(Fill(LEFT_HALF, INK), (1, 1), [[("1/2", "1/2", "255/2", 0, 5)]])

    def test_the_arguments_by_their_names(self):
        self.check(Fill(shape=LEFT_HALF, ink=INK, strength=HALF), (1, 1), [[("3/4", "1/4", "255/4", 0, "5/2")]])

    def test_the_cover_is_held_ahead_of_the_strength(self):
        twice = [box(0, "3/4", 0, 1)] * 2
        self.check(Fill(twice, INK, HALF), (1, 1), [[("1/2", "1/2", "255/2", 0, 5)]])
        self.check(Fill([box(0, 1, 0, 1)] * 3, INK), (1, 1), [[(0, 1, 255, 0, 10)]])

    def test_a_shape_turned_round_covers_nothing(self):
        self.check(Fill([LEFT_HALF[0][::-1]], INK), (2, 1), [[CLEAR, CLEAR]])

    def test_an_ink_of_noughts_covers_too(self):
        self.check(Fill([box(0, 1, 0, 1)], (0, 0, 0)), (2, 1), [[(0, 1, 0, 0, 0), CLEAR]])

    def test_every_kind_of_shape(self):
        for floor, shape in self.each_floor_and_shape():
            for strength in STRENGTHS:
                self.check_recipe(("fill", shape, (255, 17, 0), strength), floor)

    def test_the_whole_floor_of_twelve_by_twelve(self):
        expected = [[(0, 1, 1, 2, 3)] * 12] * 12
        self.check(Fill([box(0, 12, 0, 12)], (1, 2, 3)), (12, 12), expected)
        self.check(Fill([box(-1, 13, -1, 13)], (1, 2, 3)), (12, 12), expected)

    def test_one_layer_on_several_floors(self):
        layer = Fill([SLANTING], INK)
        for floor in FLOORS + FLOORS[::-1]:
            self.assertEqual(layer.films(*floor), Fill([SLANTING], INK).films(*floor))

    def test_points_of_thirty_figures(self):
        long = 10 ** 29 + 33
        shape = [ring_of((0, 0), (Fraction(2 * long, long + 1), Fraction(1, long)), ("1/2", Fraction(long - 2, long)))]
        self.check_recipe(("fill", shape, INK, Fraction(long - 1, long)), (2, 2))


class Rubs(Layers):
    def test_ordinary(self):
        self.check(Rub([box(1, 2, "1/3", 2)]), (2, 2), [[CLEAR, (0, 0, 0, 0, 0)], [CLEAR, ("1/3", 0, 0, 0, 0)]])

    def test_strengths(self):
        for strength, k in ((None, "1/2"), ((0, 1), 1), ((1, 1), "1/2"), (HALF, "3/4"), ((2, 3), "2/3")):
            self.check(Rub(LEFT_HALF, strength), (1, 1), [[(k, 0, 0, 0, 0)]])
        self.check(Rub(LEFT_HALF), (1, 1), [[("1/2", 0, 0, 0, 0)]])
        self.check(Rub(shape=LEFT_HALF, strength=HALF), (1, 1), [[("3/4", 0, 0, 0, 0)]])

    def test_the_cover_is_held_ahead_of_the_strength(self):
        self.check(Rub([box(0, "3/4", 0, 1)] * 2, HALF), (1, 1), [[("1/2", 0, 0, 0, 0)]])

    def test_every_kind_of_shape(self):
        for floor, shape in self.each_floor_and_shape():
            for strength in STRENGTHS:
                self.check_recipe(("rub", shape, strength), floor)


class MaskedOnes(Layers):
    def test_ordinary(self):
        whole = Fill([box(0, 2, 0, 1)], INK)
        self.check(Masked(LEFT_HALF, whole), (2, 1), [[("1/2", "1/2", "255/2", 0, 5), CLEAR]])
        self.check(Masked(LEFT_HALF, Rub([box(0, 2, 0, 1)])), (2, 1), [[("1/2", 0, 0, 0, 0), CLEAR]])
        self.check(Masked(shape=LEFT_HALF, layer=Fill(LEFT_HALF, INK)), (1, 1), [[("3/4", "1/4", "255/4", 0, "5/2")]])

    def test_the_mask_is_held_between_nought_and_one(self):
        layer = Fill(LEFT_HALF, INK)
        self.check(Masked([box(0, 1, 0, 1)] * 2, layer), (1, 1), [[("1/2", "1/2", "255/2", 0, 5)]])
        self.check(Masked([box(0, 1, 0, 1)[::-1]], layer), (1, 1), [[CLEAR]])
        self.check(Masked([], layer), (1, 1), [[CLEAR]])

    def test_every_kind_of_mask_and_layer(self):
        for shape in SHAPES:
            for other in SHAPES:
                self.check_recipe(("masked", shape, ("fill", other, INK, Fraction(2, 3))), (4, 3))
                self.check_recipe(("masked", shape, ("rub", other, None)), (3, 4))

    def test_the_cell_counts_not_the_place_within_it(self):
        right_half = [box("1/2", 1, 0, 1)]
        self.check(Masked(right_half, Fill(LEFT_HALF, INK)), (1, 1), [[("3/4", "1/4", "255/4", 0, "5/2")]])


class Several(Layers):
    """What Join and Group are to be alike in, and what parts them."""

    def test_of_none(self):
        for kind in (Join, Group):
            for strength in (None, (0, 1), (1, 1), HALF):
                self.check(kind([], strength), (2, 2), [[CLEAR] * 2] * 2)
            self.check(kind([]), (1, 1), [[CLEAR]])

    def test_of_one(self):
        fill, rub = Fill(LEFT_HALF, INK), Rub(LEFT_HALF)
        self.check(Join([fill]), (1, 1), [[("1/2", "1/2", "255/2", 0, 5)]])
        self.check(Join([fill], HALF), (1, 1), [[("3/4", "1/4", "255/4", 0, "5/2")]])
        self.check(Join([rub], HALF), (1, 1), [[("3/4", 0, 0, 0, 0)]])
        self.check(Group([fill]), (1, 1), [[("1/2", "1/2", "255/2", 0, 5)]])
        self.check(Group([fill], HALF), (1, 1), [[("3/4", "1/4", "255/4", 0, "5/2")]])
        self.check(Group([rub]), (1, 1), [[CLEAR]])
        self.check(Group([rub], HALF), (1, 1), [[CLEAR]])

    def test_the_arguments_by_their_names(self):
        for kind in (Join, Group):
            self.check(kind(layers=[Fill(LEFT_HALF, INK)], strength=HALF), (1, 1),
                       [[("3/4", "1/4", "255/4", 0, "5/2")]])

    def test_the_first_one_lies_lowest(self):
        lower, upper = Fill([box(0, 1, 0, 1)], RED), Fill(LEFT_HALF, GREEN)
        for kind in (Join, Group):
            self.check(kind([lower, upper]), (1, 1), [[(0, 1, "255/2", "255/2", 0)]])
            self.check(kind([upper, lower]), (1, 1), [[(0, 1, 255, 0, 0)]])
            self.check(kind([lower, upper, Fill([box(0, 1, 0, "1/3")], BLUE)]), (1, 1), [[(0, 1, 85, 85, 85)]])

    def test_rubs_between(self):
        fill, rub, half = Fill([box(0, 1, 0, 1)], RED), Rub([box(0, 1, 0, 1)]), Rub(LEFT_HALF)
        self.check(Join([fill, half]), (1, 1), [[(0, "1/2", "255/2", 0, 0)]])
        self.check(Group([fill, half]), (1, 1), [[("1/2", "1/2", "255/2", 0, 0)]])
        self.check(Join([half, fill]), (1, 1), [[(0, 1, 255, 0, 0)]])
        self.check(Join([fill, rub]), (1, 1), [[(0, 0, 0, 0, 0)]])
        self.check(Group([fill, rub]), (1, 1), [[CLEAR]])
        self.check(Join([fill, half], HALF), (1, 1), [[("1/2", "1/4", "255/4", 0, 0)]])
        self.check(Group([fill, half], HALF), (1, 1), [[("3/4", "1/4", "255/4", 0, 0)]])

    def test_strengths(self):
        inner = [("fill", [SLANTING], INK, Fraction(1, 2)), ("rub", [box(1, 3, 0, 2)], None),
                 ("fill", [box("1/2", 3, 1, 3)], BLUE, None)]
        for kind in ("join", "group"):
            for count in range(4):
                for strength in STRENGTHS:
                    self.check_recipe((kind, inner[:count], strength), (4, 3))
                    self.check_recipe((kind, inner[::-1][:count], strength), (4, 3))

    def test_one_layer_several_times(self):
        fill = Fill(LEFT_HALF, RED)
        for kind in (Join, Group):
            self.check(kind([fill, fill]), (1, 1), [[("1/4", "3/4", "765/4", 0, 0)]])

    def test_twenty_layers(self):
        drawn = Drawn(121)
        for kind in ("join", "group"):
            inner = [drawn_recipe(drawn, 1) for _ in range(20)]
            self.check_recipe((kind, inner, Fraction(2, 3)), (3, 3))

    def test_each_film_by_its_own_cell(self):
        layers = [Fill([box(0, 1, 0, 1)], RED), Fill([box(1, 2, 0, 1)], GREEN), Fill([box(0, 1, 1, 2)], BLUE)]
        for kind in (Join, Group):
            self.check(kind(layers), (2, 2), [[(0, 1, 0, 0, 255), CLEAR], [(0, 1, 255, 0, 0), (0, 1, 0, 255, 0)]])


class InOneAnother(Layers):
    def test_six_deep_by_hand(self):
        layer = Fill([box(0, 1, 0, 1)], (128, 64, 32))
        for kind in (Join, Group):
            layer = kind([layer], HALF)
        layer = Masked(LEFT_HALF, layer)
        for kind in (Group, Join):
            layer = kind([layer], HALF)
        self.check(layer, (2, 1), [[("31/32", "1/32", 4, 2, 1), CLEAR]])

    def test_a_group_within_a_join_spares_what_lies_beneath(self):
        ground, rub = Fill([box(0, 1, 0, 1)], RED), Rub([box(0, 1, 0, 1)])
        self.check(Join([ground, Join([rub])]), (1, 1), [[(0, 0, 0, 0, 0)]])
        self.check(Join([ground, Group([rub])]), (1, 1), [[(0, 1, 255, 0, 0)]])

    def test_many_of_each_depth(self):
        drawn = Drawn(122)
        for deep in (1, 2, 3, 4, 5, 6):
            for _ in range(14):
                floor = (drawn.chance.randint(1, 4), drawn.chance.randint(1, 3))
                self.check_recipe(drawn_recipe(drawn, deep), floor)

    def test_on_the_largest_floor(self):
        drawn = Drawn(123)
        for _ in range(4):
            self.check_recipe(drawn_recipe(drawn, 3, -2, 14), (12, 12))


class Touched(Layers):
    def test_row_by_row_from_the_lowest_and_by_columns(self):
        self.assertEqual(Fill([box(1, 3, 0, 2)], INK).touched(4, 3), [(1, 0), (2, 0), (1, 1), (2, 1)])
        self.assertEqual(Fill([box(2, 3, 1, 3), box(0, 1, 1, 2)], INK).touched(3, 3), [(0, 1), (2, 1), (2, 2)])
        self.assertEqual(Rub([box(0, 1, 0, 3)]).touched(2, 2), [(0, 0), (0, 1)])

    def test_none(self):
        whole = [box(0, 2, 0, 2)]
        for layer in (Fill([], INK), Fill(whole, INK, (0, 1)), Rub(whole, (0, 1)), Fill([whole[0][::-1]], INK),
                      Fill([box(2, 3, 0, 2)], INK), Masked([], Fill(whole, INK)), Masked(whole, Fill([], INK)),
                      Join([]), Group([]), Join([Fill(whole, INK)], (0, 1)), Group([Fill(whole, INK)], (0, 1)),
                      Group([Rub(whole)]), Group([Fill(whole, INK), Rub(whole)])):
            self.assertEqual(layer.touched(2, 2), [])

    def test_a_rubbing_one_touches_and_so_does_a_join_of_it(self):
        whole = [box(0, 1, 0, 2)]
        for layer in (Rub(whole), Join([Rub(whole)]), Join([Fill(whole, INK), Rub(whole)]), Masked(whole, Rub(whole))):
            self.assertEqual(layer.touched(2, 2), [(0, 0), (0, 1)])

    def test_the_least_share_touches(self):
        least = [ring_of((1, 1), (1 + Fraction(1, 10 ** 29), 1), (1, 1 + Fraction(1, 10 ** 29)))]
        self.assertEqual(Fill(least, INK).touched(2, 2), [(1, 1)])
        self.assertEqual(Rub(least, (1, 10 ** 29)).touched(2, 2), [(1, 1)])

    def test_a_group_of_fills_is_a_join_of_them(self):
        drawn = Drawn(124)
        for _ in range(40):
            fills = [Fill(drawn.shape(3, 6, -1, 5), (drawn.chance.randint(0, 255), 0, 255),
                          drawn.chance.choice((None, HALF, (2, 3), (0, 1)))) for _ in range(drawn.chance.randint(0, 5))]
            floor = (drawn.chance.randint(1, 5), drawn.chance.randint(1, 4))
            for strength in (None, (1, 1)):
                group, join = Group(fills, strength), Join(fills, strength)
                self.assertEqual(group.films(*floor), join.films(*floor))
                self.assertEqual(group.touched(*floor), join.touched(*floor))


class Own(Layers):
    """Point 2: nothing handed in is changed or leaned on, and what is told is the asker's own."""

    def each_kind(self, shape, layers):
        return [Fill(shape, INK, HALF), Rub(shape, HALF), Masked(shape, Fill([SLANTING], INK)), Join(layers, HALF),
                Group(layers, HALF)]

    def test_lists_changed_behind(self):
        shape, layers = [list(SLANTING), box(1, 2, 0, 1)], [Fill([SLANTING], RED), Fill(LEFT_HALF, GREEN)]
        kept, count = copy.deepcopy(shape), list(layers)
        made_ones = self.each_kind(shape, layers)
        films = [layer.films(4, 3) for layer in made_ones]
        touched = [layer.touched(4, 3) for layer in made_ones]
        self.assertEqual(shape, kept)
        self.assertEqual(layers, count)
        spoil(shape)
        spoil(layers)
        self.assertNotEqual(shape, kept)
        self.assertEqual([layer.films(4, 3) for layer in made_ones], films)
        self.assertEqual([layer.touched(4, 3) for layer in made_ones], touched)

    def test_lists_changed_ahead_of_the_first_question(self):
        shape, layers = [list(SLANTING), box(1, 2, 0, 1)], [Fill([SLANTING], RED), Fill(LEFT_HALF, GREEN)]
        expected = [layer.films(4, 3) for layer in self.each_kind(copy.deepcopy(shape), list(layers))]
        made_ones = self.each_kind(shape, layers)
        shape[0][1] = ((9, 1), (9, 1))
        shape[1].clear()
        layers[0] = Rub([box(0, 4, 0, 4)])
        layers.append(Fill([box(0, 4, 0, 4)], BLUE))
        self.assertEqual([layer.films(4, 3) for layer in made_ones], expected)

    def test_told_lists_are_new(self):
        for layer in self.each_kind([list(SLANTING)], [Fill([SLANTING], RED)]):
            first, second = layer.films(4, 3), layer.films(4, 3)
            kept = copy.deepcopy(first)
            spoil(first)
            self.assertEqual(second, kept)
            self.assertEqual(layer.films(4, 3), kept)
            first, second = layer.touched(4, 3), layer.touched(4, 3)
            kept = list(first)
            spoil(first)
            self.assertEqual(second, kept)
            self.assertEqual(layer.touched(4, 3), kept)

    def test_told_rows_are_apart_also_where_all_is_clear(self):
        for layer in (Fill([], INK), Rub([]), Masked([], Rub([])), Join([]), Group([]), Join([Join([])])):
            check_lists_apart(self, layer.films(3, 4))

    def test_a_layer_asked_within_others_stays_as_it_is(self):
        fill = Fill([SLANTING], INK)
        films = fill.films(4, 3)
        for layer in (Masked(LEFT_HALF, fill), Join([fill, Rub(LEFT_HALF)], HALF), Group([Rub(LEFT_HALF), fill], HALF)):
            spoil(layer.films(4, 3))
            self.assertEqual(fill.films(4, 3), films)


if __name__ == "__main__":
    unittest.main()
