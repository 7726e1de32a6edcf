"""Point 24 (layers by numbers), point 25 (renewing), what point 3 says of pictures, and point 2 for all these."""

import copy
import unittest
from fractions import Fraction
from unittest import mock

from checks import Drawn, as_ratio, box, check_lists_apart, check_ratio, ring_of, spoil
from coverfill import pictures
from coverfill.errors import NoLayer, NoPlace
from coverfill.layers import Fill, Group, Join, Masked, Rub
from coverfill.pictures import Picture
from recipes import PictureByWords, drawn_recipe, films_by_words, made

RED = (255, 0, 0)
GREEN = (0, 255, 0)
NOUGHT = (0, 1)
HALF = (1, 2)
CLEAR = (NOUGHT, NOUGHT, NOUGHT, NOUGHT)
LOW_ROW = Fill([box(0, 3, 0, 1)], RED)
FIRST_COLUMN = Fill([box(0, 1, 0, 2)], GREEN, HALF)
MIDDLE = Fill([box(1, 2, 0, 2)], GREEN)
NOTHING = Fill([], RED)
WHOLE_RUB = Rub([box(0, 3, 0, 2)])
LOW_CELLS = [(0, 0), (1, 0), (2, 0)]
FIRST_CELLS = [(0, 0), (0, 1)]
MIDDLE_CELLS = [(1, 0), (1, 1)]
ALL_CELLS = [(0, 0), (1, 0), (2, 0), (0, 1), (1, 1), (2, 1)]


def ground_of(*numbers):
    return tuple(as_ratio(number) for number in numbers)


def picture_of(*layers, width=3, height=2):
    picture = Picture(width, height)
    for layer in layers:
        picture.add(layer)
    return picture


class Numbers(unittest.TestCase):
    """Point 24."""

    def test_added_ones_have_the_next_numbers(self):
        picture = Picture(3, 2)
        self.assertEqual(picture.numbers(), [])
        for number in range(40):
            told = picture.add(LOW_ROW if number % 2 else WHOLE_RUB)
            self.assertIs(type(told), int)
            self.assertEqual(told, number)
        self.assertEqual(picture.numbers(), list(range(40)))

    def test_no_number_comes_twice(self):
        picture = picture_of(LOW_ROW, MIDDLE)
        picture.drop(1)
        self.assertEqual(picture.add(MIDDLE), 2)
        picture.drop(0)
        picture.drop(2)
        self.assertEqual(picture.numbers(), [])
        self.assertEqual(picture.add(LOW_ROW), 3)
        picture.renew()
        self.assertEqual(picture.add(LOW_ROW), 4)
        self.assertEqual(picture.numbers(), [3, 4])

    def test_one_layer_added_twice(self):
        picture = picture_of(FIRST_COLUMN, FIRST_COLUMN)
        picture.renew()
        self.assertEqual(picture.numbers(), [0, 1])
        self.assertEqual(picture.cells()[0][0], ground_of("3/4", 0, "765/4", 0))
        picture.drop(0)
        picture.renew()
        self.assertEqual(picture.numbers(), [1])
        self.assertEqual(picture.cells()[0][0], ground_of("1/2", 0, "255/2", 0))

    def test_change_keeps_number_and_place(self):
        picture = picture_of(LOW_ROW, MIDDLE, FIRST_COLUMN)
        self.assertIsNone(picture.change(1, WHOLE_RUB))
        self.assertEqual(picture.numbers(), [0, 1, 2])
        picture.renew()
        self.assertEqual(picture.cells()[0], [ground_of("1/2", 0, "255/2", 0), CLEAR, CLEAR])
        self.assertEqual(picture.add(NOTHING), 3)

    def test_drop_gives_none(self):
        picture = picture_of(LOW_ROW, MIDDLE, FIRST_COLUMN)
        self.assertIsNone(picture.drop(1))
        self.assertEqual(picture.numbers(), [0, 2])

    def test_lift(self):
        for number, place, expected in ((0, 0, [0, 1, 2, 3]), (0, 1, [1, 0, 2, 3]), (0, 2, [1, 2, 0, 3]),
                                        (0, 3, [1, 2, 3, 0]), (3, 0, [3, 0, 1, 2]), (3, 3, [0, 1, 2, 3]),
                                        (1, 0, [1, 0, 2, 3]), (1, 1, [0, 1, 2, 3]), (1, 2, [0, 2, 1, 3]),
                                        (1, 3, [0, 2, 3, 1]), (2, 1, [0, 2, 1, 3])):
            picture = picture_of(LOW_ROW, MIDDLE, FIRST_COLUMN, WHOLE_RUB)
            self.assertIsNone(picture.lift(number, place))
            self.assertEqual(picture.numbers(), expected)

    def test_lift_the_only_one(self):
        picture = picture_of(LOW_ROW)
        self.assertIsNone(picture.lift(0, 0))
        self.assertEqual(picture.numbers(), [0])
        with self.assertRaises(NoPlace):
            picture.lift(0, 1)

    def test_places_are_counted_anew_behind_a_drop(self):
        picture = picture_of(LOW_ROW, MIDDLE, FIRST_COLUMN, WHOLE_RUB)
        picture.drop(1)
        picture.lift(3, 1)
        self.assertEqual(picture.numbers(), [0, 3, 2])
        with self.assertRaises(NoPlace):
            picture.lift(3, 3)

    def test_lifted_ones_lie_where_they_are_told(self):
        picture = picture_of(LOW_ROW, MIDDLE)
        picture.renew()
        self.assertEqual(picture.cells()[0][1], ground_of(1, 0, 255, 0))
        picture.lift(0, 1)
        picture.renew()
        self.assertEqual(picture.cells()[0][1], ground_of(1, 255, 0, 0))


class Refused(unittest.TestCase):
    """Point 24: NoLayer, behind it NoPlace, and nothing is changed."""

    def picture(self):
        picture = picture_of(LOW_ROW, MIDDLE, FIRST_COLUMN, WHOLE_RUB)
        picture.drop(3)
        picture.renew()
        picture.lift(0, 2)
        return picture

    def check_nothing_changed(self, picture):
        self.assertEqual(picture.numbers(), [1, 2, 0])
        self.assertEqual(picture.cells()[0][1], ground_of(1, 0, 255, 0))
        self.assertEqual(picture.renew(), LOW_CELLS)
        self.assertEqual(picture.cells()[0][1], ground_of(1, 255, 0, 0))
        self.assertEqual(picture.renew(), [])
        self.assertEqual(picture.add(NOTHING), 4)

    def check_refused(self, refusal, ask):
        picture = self.picture()
        with self.assertRaises(refusal):
            ask(picture)
        self.check_nothing_changed(picture)

    def test_the_picture_as_it_is(self):
        self.check_nothing_changed(self.picture())

    def test_no_layer(self):
        # Never there, dropped, below 0, of thirty figures, and longer than Python writes numbers.
        for number in (4, 3, -1, -4, 10 ** 29, -10 ** 29, 10 ** 5000, -10 ** 5000):
            self.check_refused(NoLayer, lambda picture: picture.drop(number))
            self.check_refused(NoLayer, lambda picture: picture.change(number, WHOLE_RUB))
            self.check_refused(NoLayer, lambda picture: picture.lift(number, 0))
            self.check_refused(NoLayer, lambda picture: picture.lift(number, 2))

    def test_no_layer_ahead_of_no_place(self):
        for place in (-1, 3, 10 ** 29):
            self.check_refused(NoLayer, lambda picture: picture.lift(3, place))
            self.check_refused(NoLayer, lambda picture: picture.lift(-1, place))

    def test_no_place(self):
        for place in (-1, -2, -3, 3, 4, 10 ** 29, -10 ** 29, 10 ** 5000, -10 ** 5000):
            for number in (0, 1, 2):
                self.check_refused(NoPlace, lambda picture: picture.lift(number, place))

    def test_of_a_picture_without_layers(self):
        picture = Picture(2, 2)
        for ask in (lambda: picture.drop(0), lambda: picture.change(0, LOW_ROW), lambda: picture.lift(0, 0)):
            with self.assertRaises(NoLayer):
                ask()
        self.assertEqual(picture.renew(), [])
        self.assertEqual(picture.add(LOW_ROW), 0)

    def test_dropped_twice(self):
        picture = picture_of(LOW_ROW)
        picture.drop(0)
        with self.assertRaises(NoLayer):
            picture.drop(0)


class Renewing(unittest.TestCase):
    """Point 25."""

    def check_kinds(self, cells, width, height):
        self.assertIs(type(cells), list)
        self.assertEqual(len(cells), height)
        for row in cells:
            self.assertIs(type(row), list)
            self.assertEqual(len(row), width)
            for ground in row:
                self.assertIs(type(ground), tuple)
                self.assertEqual(len(ground), 4)
                for part in ground:
                    check_ratio(self, part, Fraction(*part))
        check_lists_apart(self, cells)

    def check_told(self, picture, expected):
        told = picture.renew()
        self.assertIs(type(told), list)
        self.assertEqual(told, expected)
        for cell in told:
            self.assertIs(type(cell), tuple)
        self.assertEqual(picture.renew(), [])

    def test_the_clear_ground_at_first(self):
        for width, height in ((1, 1), (3, 2), (1, 5), (12, 12)):
            picture = Picture(width, height)
            self.check_kinds(picture.cells(), width, height)
            self.assertEqual(picture.cells(), [[CLEAR] * width for _ in range(height)])
            self.check_told(picture, [])
            self.assertEqual(picture.cells(), [[CLEAR] * width for _ in range(height)])

    def test_cells_stay_till_the_next_renewing(self):
        picture = Picture(3, 2)
        picture.add(LOW_ROW)
        self.assertEqual(picture.cells(), [[CLEAR] * 3] * 2)
        self.check_told(picture, LOW_CELLS)
        red = ground_of(1, 255, 0, 0)
        self.assertEqual(picture.cells(), [[red] * 3, [CLEAR] * 3])
        picture.add(MIDDLE)
        picture.change(0, NOTHING)
        picture.lift(0, 1)
        picture.drop(0)
        self.assertEqual(picture.cells(), [[red] * 3, [CLEAR] * 3])
        self.check_told(picture, [(0, 0), (1, 0), (2, 0), (1, 1)])
        green = ground_of(1, 0, 255, 0)
        self.assertEqual(picture.cells(), [[CLEAR, green, CLEAR]] * 2)
        self.check_kinds(picture.cells(), 3, 2)

    def test_from_the_lowest_on(self):
        picture = picture_of(LOW_ROW, FIRST_COLUMN)
        picture.renew()
        self.assertEqual(picture.cells()[0], [ground_of(1, "255/2", "255/2", 0)] + [ground_of(1, 255, 0, 0)] * 2)
        self.assertEqual(picture.cells()[1], [ground_of("1/2", 0, "255/2", 0), CLEAR, CLEAR])

    def test_added(self):
        self.check_told(picture_of(LOW_ROW), LOW_CELLS)
        self.check_told(picture_of(FIRST_COLUMN, LOW_ROW), [(0, 0), (1, 0), (2, 0), (0, 1)])
        self.check_told(picture_of(WHOLE_RUB), ALL_CELLS)
        self.check_told(picture_of(NOTHING), [])

    def test_dropped(self):
        picture = picture_of(LOW_ROW, MIDDLE)
        picture.renew()
        picture.drop(0)
        self.check_told(picture, LOW_CELLS)
        picture.drop(1)
        self.check_told(picture, MIDDLE_CELLS)
        self.assertEqual(picture.cells(), [[CLEAR] * 3] * 2)

    def test_added_and_dropped_again(self):
        picture = picture_of(LOW_ROW)
        picture.drop(0)
        self.check_told(picture, LOW_CELLS)
        self.assertEqual(picture.cells(), [[CLEAR] * 3] * 2)

    def test_changed_to_and_changed_away_from(self):
        picture = picture_of(LOW_ROW)
        picture.renew()
        picture.change(0, FIRST_COLUMN)
        self.check_told(picture, [(0, 0), (1, 0), (2, 0), (0, 1)])
        picture.change(0, NOTHING)
        self.check_told(picture, FIRST_CELLS)
        picture.change(0, MIDDLE)
        self.check_told(picture, MIDDLE_CELLS)
        picture.change(0, NOTHING)
        picture.change(0, MIDDLE)
        self.check_told(picture, MIDDLE_CELLS)

    def test_changed_to_itself_and_back(self):
        picture = picture_of(LOW_ROW)
        picture.renew()
        picture.change(0, LOW_ROW)
        self.check_told(picture, LOW_CELLS)
        picture.change(0, FIRST_COLUMN)
        picture.change(0, LOW_ROW)
        self.check_told(picture, [(0, 0), (1, 0), (2, 0), (0, 1)])

    def test_lifted_elsewhere(self):
        picture = picture_of(LOW_ROW, MIDDLE, FIRST_COLUMN)
        picture.renew()
        picture.lift(1, 2)
        self.check_told(picture, MIDDLE_CELLS)
        picture.lift(1, 0)
        self.check_told(picture, MIDDLE_CELLS)
        picture.lift(0, 2)
        picture.lift(2, 0)
        self.check_told(picture, [(0, 0), (1, 0), (2, 0), (0, 1)])

    def test_lifted_and_back(self):
        picture = picture_of(LOW_ROW, MIDDLE)
        picture.renew()
        picture.lift(0, 1)
        picture.lift(0, 0)
        self.check_told(picture, LOW_CELLS)

    def test_lifted_to_the_same_place(self):
        picture = picture_of(LOW_ROW, MIDDLE, FIRST_COLUMN)
        picture.renew()
        for number in (0, 1, 2):
            picture.lift(number, number)
        self.check_told(picture, [])
        picture.drop(1)
        picture.renew()
        picture.lift(2, 1)
        self.check_told(picture, [])

    def test_what_others_touch_is_not_told(self):
        picture = picture_of(WHOLE_RUB, LOW_ROW, MIDDLE)
        picture.renew()
        picture.add(FIRST_COLUMN)
        self.check_told(picture, FIRST_CELLS)

    def test_cells_with_the_same_ground_in_the_end(self):
        picture = picture_of(LOW_ROW)
        picture.renew()
        cells = picture.cells()
        picture.add(LOW_ROW)
        self.check_told(picture, LOW_CELLS)
        self.assertEqual(picture.cells(), cells)
        picture.add(WHOLE_RUB)
        picture.lift(2, 0)
        self.check_told(picture, ALL_CELLS)
        self.assertEqual(picture.cells(), cells)

    def test_layers_in_layers(self):
        fill = Fill([box(0, 3, 0, 2)], RED)
        picture = picture_of(Masked([box(0, 1, 0, 2)], fill), Group([MIDDLE, Rub([box(2, 3, 0, 2)])]))
        self.check_told(picture, [(0, 0), (1, 0), (0, 1), (1, 1)])
        picture.change(1, Join([fill, WHOLE_RUB], HALF))
        self.check_told(picture, ALL_CELLS)
        self.assertEqual(picture.cells(), [[ground_of("1/2", "255/2", 0, 0), CLEAR, CLEAR]] * 2)

    def test_only_the_cells_told_are_done_again(self):
        picture = picture_of(*[WHOLE_RUB] * 5)
        picture.renew()
        picture.add(MIDDLE)
        with mock.patch.object(pictures, "seen", wraps=pictures.seen) as watched:
            picture.renew()
        self.assertLessEqual(watched.call_count, 2 * 6)
        with mock.patch.object(pictures, "seen", wraps=pictures.seen) as watched:
            picture.renew()
            picture.cells()
        self.assertEqual(watched.call_count, 0)

    def test_the_order_on_a_larger_floor(self):
        picture = Picture(12, 11)
        picture.add(Fill([box(10, 12, 9, 11)], RED))
        picture.add(Fill([box(1, 3, 1, 3)], RED))
        self.check_told(picture, [(1, 1), (2, 1), (1, 2), (2, 2), (10, 9), (11, 9), (10, 10), (11, 10)])

    def test_two_pictures_know_nothing_of_one_another(self):
        one, other = Picture(3, 2), Picture(3, 2)
        one.add(LOW_ROW)
        self.assertEqual((other.numbers(), other.renew()), ([], []))
        self.assertEqual(other.add(MIDDLE), 0)
        self.assertEqual(one.renew(), LOW_CELLS)
        self.assertEqual(other.renew(), MIDDLE_CELLS)


class Watched(unittest.TestCase):
    """Point 25: the watcher."""

    def setUp(self):
        self.calls = []
        self.picture = Picture(3, 2, lambda column, row: self.calls.append((column, row)))

    def check_renewed(self, expected):
        self.assertEqual(self.calls, [])
        self.assertEqual(self.picture.renew(), expected)
        self.assertEqual(self.calls, expected)
        self.calls.clear()

    def test_called_for_each_cell_told_and_at_no_other_time(self):
        self.check_renewed([])
        self.picture.add(FIRST_COLUMN)
        self.picture.add(LOW_ROW)
        self.check_renewed([(0, 0), (1, 0), (2, 0), (0, 1)])
        self.check_renewed([])
        self.picture.change(1, MIDDLE)
        self.picture.lift(1, 0)
        self.picture.numbers()
        self.picture.cells()
        self.check_renewed([(0, 0), (1, 0), (2, 0), (1, 1)])
        self.picture.drop(0)
        self.picture.drop(1)
        self.check_renewed([(0, 0), (1, 0), (0, 1), (1, 1)])

    def test_not_called_for_what_is_refused(self):
        self.picture.add(LOW_ROW)
        for refusal, ask in ((NoLayer, lambda: self.picture.drop(1)), (NoPlace, lambda: self.picture.lift(0, 1)),
                             (NoLayer, lambda: self.picture.change(1, MIDDLE))):
            with self.assertRaises(refusal):
                ask()
        self.check_renewed(LOW_CELLS)

    def test_whole_numbers_are_handed_to_it(self):
        self.picture.add(WHOLE_RUB)
        self.picture.renew()
        self.assertEqual({type(part) for cell in self.calls for part in cell}, {int})

    def test_by_its_name_and_none(self):
        calls = []
        picture = Picture(width=2, height=1, watcher=lambda column, row: calls.append((column, row)))
        picture.add(LOW_ROW)
        self.assertEqual(picture.renew(), calls)
        self.assertEqual(calls, [(0, 0), (1, 0)])
        for unwatched in (Picture(2, 1, None), Picture(2, 1)):
            unwatched.add(LOW_ROW)
            self.assertEqual(unwatched.renew(), [(0, 0), (1, 0)])

    def test_what_a_watcher_gives_back_counts_for_nothing(self):
        picture = Picture(3, 2, lambda column, row: column == 0)
        picture.add(LOW_ROW)
        self.assertEqual(picture.renew(), LOW_CELLS)


class ManyDeeds(unittest.TestCase):
    """Point 3: a renewed picture is what a new picture with its layers is."""

    def do_one(self, drawn, picture, words, layers):
        """One deed, drawn, done to both."""
        numbers = words.numbers()
        kind = drawn.chance.randrange(len(layers))
        deed = drawn.chance.choice(("add", "drop", "change", "lift", "lift"))
        if not numbers or deed == "add" and len(numbers) < 8:
            self.assertEqual(picture.add(layers[kind]), words.add(kind))
            return
        number = drawn.chance.choice(numbers)
        if deed == "change":
            picture.change(number, layers[kind])
            words.change(number, kind)
        elif deed == "lift":
            place = drawn.chance.randrange(len(numbers))
            picture.lift(number, place)
            words.lift(number, place)
        else:
            picture.drop(number)
            words.drop(number)

    def check_renewed(self, picture, words, layers, floor, calls):
        before = picture.cells()
        told = picture.renew()
        self.assertEqual(told, words.renew())
        self.assertEqual(calls, told)
        calls.clear()
        self.assertEqual(picture.numbers(), words.numbers())
        new = picture_of(*[layers[kind] for number, kind in words.row], width=floor[0], height=floor[1])
        new.renew()
        self.assertEqual(picture.cells(), new.cells())
        for row, grounds in enumerate(picture.cells()):
            for column, ground in enumerate(grounds):
                self.assertEqual(ground, ground_of(*words.ground(column, row)))
                if (column, row) not in told:
                    self.assertEqual(ground, before[row][column])

    def check_many(self, seed, floor, deeds):
        drawn = Drawn(seed)
        recipes = [drawn_recipe(drawn, deep, -1, 4) for deep in (1, 1, 1, 1, 1, 2, 2, 3)]
        recipes.append(("fill", [box(0, 1, 0, 1)], RED, None))
        recipes.append(("rub", [box(0, 2, 0, 1)], Fraction(1, 2)))
        layers = [made(recipe) for recipe in recipes]
        films = [films_by_words(recipe, *floor) for recipe in recipes]
        words = PictureByWords(lambda kind: films[kind])
        calls = []
        picture = Picture(*floor, lambda column, row: calls.append((column, row)))
        for _ in range(deeds):
            for _ in range(drawn.chance.randint(0, 3)):
                self.do_one(drawn, picture, words, layers)
            self.assertEqual(calls, [])
            self.check_renewed(picture, words, layers, floor, calls)

    def test_on_floors_of_several_sizes(self):
        for seed, floor in enumerate(((1, 1), (2, 3), (3, 2), (4, 1), (1, 4), (4, 4)), 131):
            self.check_many(seed, floor, 40)

    def test_on_the_largest_floor(self):
        drawn = Drawn(139)
        layers = [made(drawn_recipe(drawn, 2, -2, 14)) for _ in range(6)]
        picture = picture_of(*layers, width=12, height=12)
        picture.renew()
        picture.lift(0, 5)
        picture.drop(2)
        picture.change(4, layers[1])
        picture.renew()
        new = picture_of(layers[1], layers[3], layers[1], layers[5], layers[0], width=12, height=12)
        new.renew()
        self.assertEqual(picture.numbers(), [1, 3, 4, 5, 0])
        self.assertEqual(picture.cells(), new.cells())

    def test_forty_layers(self):
        drawn = Drawn(140)
        layers = [made(drawn_recipe(drawn, 1, -1, 4)) for _ in range(40)]
        picture = picture_of(*layers)
        picture.renew()
        for number in range(0, 40, 3):
            picture.lift(number, 39)
        picture.renew()
        order = [k for k in range(40) if k % 3] + list(range(0, 40, 3))
        self.assertEqual(picture.numbers(), order)
        new = picture_of(*[layers[k] for k in order])
        new.renew()
        self.assertEqual(picture.cells(), new.cells())


class Own(unittest.TestCase):
    """Point 2."""

    def test_told_lists_are_new(self):
        picture = picture_of(LOW_ROW, MIDDLE)
        cells = picture.renew()
        spoil(cells)
        for tell in (picture.numbers, picture.cells):
            first, second = tell(), tell()
            kept = copy.deepcopy(first)
            spoil(first)
            self.assertEqual(second, kept)
            self.assertEqual(tell(), kept)

    def test_told_cells_and_numbers_stay_as_they_were_told(self):
        picture = picture_of(LOW_ROW, MIDDLE)
        told = picture.renew()
        cells, numbers = picture.cells(), picture.numbers()
        kept = copy.deepcopy((told, cells, numbers))
        picture.lift(0, 1)
        picture.change(1, WHOLE_RUB)
        picture.drop(0)
        picture.add(FIRST_COLUMN)
        picture.renew()
        self.assertEqual((told, cells, numbers), kept)
        self.assertNotEqual(picture.cells(), cells)

    def test_a_spoiled_answer_of_renew_changes_nothing(self):
        picture = picture_of(LOW_ROW)
        spoil(picture.renew())
        self.assertEqual(picture.renew(), [])
        picture.add(MIDDLE)
        self.assertEqual(picture.renew(), MIDDLE_CELLS)

    def test_shapes_and_layers_changed_behind(self):
        shape = [box(0, 1, 0, 1), ring_of((1, 0), (2, 0), (2, 1))]
        layers = [Fill(shape, RED), FIRST_COLUMN]
        picture = picture_of(Join(layers), Fill(shape, GREEN, HALF))
        same = picture_of(Join(list(layers)), Fill(copy.deepcopy(shape), GREEN, HALF))
        spoil(shape)
        spoil(layers)
        self.assertEqual(picture.renew(), same.renew())
        self.assertEqual(picture.cells(), same.cells())
        for one in (picture, same):
            one.lift(0, 1)
            one.renew()
        self.assertEqual(picture.cells(), same.cells())

    def test_layers_are_not_changed(self):
        layers = (LOW_ROW, Join([MIDDLE, FIRST_COLUMN], HALF))
        films = [layer.films(3, 2) for layer in layers]
        picture = picture_of(*layers)
        picture.renew()
        picture.lift(0, 1)
        picture.renew()
        self.assertEqual([layer.films(3, 2) for layer in layers], films)


if __name__ == "__main__":
    unittest.main()
