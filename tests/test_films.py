"""Point 19 (covers, inks, strengths, grounds), point 20 (films on grounds), point 21 (films made of films)."""

import unittest
from fractions import Fraction

from checks import Drawn, as_ratio, check_ratio
from coverfill.films import alone, clear_film, cover, ink_film, joined, mixed, rub_film, seen
from recipes import CLEAR, alone_by_words, joined_by_words, mixed_by_words, seen_by_words

THIRTY = 10 ** 29 + 33
# Of two hundred figures, and without a common divisor with the numbers beside them.
LONG = 10 ** 199 + 153
LONGER = 10 ** 199 + 154
NEAR_NOUGHT = Fraction(1, LONG)
NEAR_ONE = Fraction(LONG - 1, LONG)
STRENGTHS = (0, 1, Fraction(1, 2), Fraction(2, 3), Fraction(1, 255), NEAR_NOUGHT, NEAR_ONE)
INKS = ((0, 0, 0), (255, 255, 255), (0, 128, 255), (255, 0, 1), (17, 51, 34))
# Films as (k, a, r, g, b): the clear one; those that let nothing through; those of an ink, that rub, of all kinds.
FILMS = (CLEAR, (0, 0, 0, 0, 0), (0, 1, 255, 0, 7), (0, "1/2", "255/2", 0, "1/3"), ("2/3", "1/3", 85, 0, "17/3"),
         ("1/4", 0, 0, 0, 0), ("1/2", "1/3", 80, "1/7", 0), ("1/6", "5/6", "3/4", "425/2", 1),
         (NEAR_ONE, NEAR_NOUGHT, 255 * NEAR_NOUGHT, 0, 7 * NEAR_NOUGHT),
         (Fraction(1, LONGER), NEAR_ONE, 255 * NEAR_ONE, Fraction(3, LONGER), 17))
GROUNDS = ((0, 0, 0, 0), (1, 255, 0, 7), (1, 0, 0, 0), ("1/2", "1/3", "3/7", 100), (NEAR_ONE, 200, NEAR_NOUGHT, 0),
           (Fraction(LONG, LONGER), 1, Fraction(7, LONGER), "5/6"))


def parts_of(*numbers):
    return tuple(as_ratio(number) for number in numbers)


def exact(parts):
    return tuple(Fraction(*part) for part in parts)


def drawn_part(drawn):
    """A ratio from nought to 1: mostly of short bottoms, some of long ones, and the ends themselves."""
    bottom = drawn.chance.choice((1, 2, 3, 10, 255, THIRTY, LONG))
    return Fraction(drawn.chance.randint(0, bottom), bottom)


def drawn_film(drawn):
    a = drawn_part(drawn)
    k = drawn_part(drawn) * (1 - a)
    return parts_of(k, a, *[drawn_part(drawn) * 255 * a for _ in range(3)])


def drawn_ground(drawn):
    a = drawn_part(drawn)
    return parts_of(a, *[drawn_part(drawn) * 255 * a for _ in range(3)])


class Films(unittest.TestCase):
    def check_parts(self, told, expected):
        """A tuple of just these ratios, in lowest terms."""
        self.assertIs(type(told), tuple)
        self.assertEqual(len(told), len(expected))
        for part, number in zip(told, expected):
            check_ratio(self, part, number)

    def check_film(self, told, *expected):
        """A film, by the words of point 20, and just the one that is expected."""
        self.assertEqual(len(expected), 5)
        self.check_parts(told, expected)
        k, a, r, g, b = exact(told)
        self.assertTrue(k >= 0 and a >= 0 and k + a <= 1)
        for part in (r, g, b):
            self.assertTrue(0 <= part <= 255 * a)

    def each_film(self, seed, count):
        """The films that stand above and drawn ones, as ratios and as numbers of Python's own."""
        for film in FILMS:
            yield parts_of(*film), exact(parts_of(*film))
        drawn = Drawn(seed)
        for _ in range(count):
            film = drawn_film(drawn)
            yield film, exact(film)

    def each_strength(self, seed, count):
        for strength in STRENGTHS:
            yield Fraction(strength)
        drawn = Drawn(seed)
        for _ in range(count):
            yield drawn_part(drawn)


class Cover(Films):
    def check(self, share, expected):
        check_ratio(self, cover(as_ratio(share)), expected)

    def test_below_nought(self):
        for share in (-1, "-1/2", -7, "-9/2", -THIRTY, -NEAR_NOUGHT, Fraction(-1, THIRTY)):
            self.check(share, 0)

    def test_at_the_ends(self):
        self.check(0, 0)
        self.check(1, 1)

    def test_between(self):
        for share in ("1/2", "2/3", "254/255", NEAR_NOUGHT, NEAR_ONE, Fraction(1, THIRTY), 1 - Fraction(1, THIRTY)):
            self.check(share, share)

    def test_above_one(self):
        for share in (2, "3/2", "256/255", THIRTY, 1 + NEAR_NOUGHT, Fraction(THIRTY + 1, THIRTY), 1 + NEAR_ONE):
            self.check(share, 1)

    def test_many(self):
        drawn = Drawn(71)
        for _ in range(200):
            share = drawn.number(-2, 3, (1, 2, 3, 7, THIRTY))
            self.check(share, min(max(share, 0), 1))


class Clear(Films):
    def test_the_clear_film(self):
        self.check_film(clear_film(), 1, 0, 0, 0, 0)
        self.assertEqual(clear_film(), ((1, 1), (0, 1), (0, 1), (0, 1), (0, 1)))
        self.assertEqual(clear_film(), clear_film())

    def test_seen_it_makes_the_same_ground(self):
        drawn = Drawn(72)
        for ground in [parts_of(*ground) for ground in GROUNDS] + [drawn_ground(drawn) for _ in range(40)]:
            self.check_parts(seen(clear_film(), ground), exact(ground))


class Seen(Films):
    def check(self, film, ground, *expected):
        self.check_parts(seen(parts_of(*film), parts_of(*ground)), expected)

    def test_ordinary(self):
        self.check(("1/2", "1/2", 100, 50, 0), (1, 255, 0, 8), 1, "455/2", 50, 4)
        self.check(("1/2", "1/3", 80, "1/7", 0), ("1/2", "1/3", "3/7", 100), "7/12", "481/6", "5/14", 50)

    def test_each_part_is_its_own(self):
        self.check(("1/2", "1/3", 1, 2, 3), (0, 0, 0, 0), "1/3", 1, 2, 3)
        self.check(("1/2", 0, 0, 0, 0), ("4/5", 10, 20, 30), "2/5", 5, 10, 15)

    def test_on_the_clear_ground_stays_what_the_film_adds(self):
        for film, numbers in self.each_film(73, 40):
            self.check_parts(seen(film, parts_of(0, 0, 0, 0)), numbers[1:])

    def test_of_films_that_let_nothing_through(self):
        for ground in GROUNDS:
            self.check((0, 1, 255, 0, 7), ground, 1, 255, 0, 7)
            self.check((0, "1/2", "255/2", 0, "1/3"), ground, "1/2", "255/2", 0, "1/3")
            self.check((0, 0, 0, 0, 0), ground, 0, 0, 0, 0)

    def test_in_lowest_terms(self):
        self.assertEqual(seen(parts_of("1/2", "1/3", 0, 0, 0), parts_of("1/3", 0, 0, 0))[0], (1, 2))

    def test_many(self):
        drawn = Drawn(74)
        for film, numbers in self.each_film(75, 60):
            for ground in [parts_of(*ground) for ground in GROUNDS] + [drawn_ground(drawn) for _ in range(4)]:
                told = seen(film, ground)
                self.check_parts(told, seen_by_words(numbers, exact(ground)))
                # What is told is a ground, so another film is seen on it.
                again = seen(film, told)
                self.check_parts(again, seen_by_words(numbers, exact(told)))


class InkFilm(Films):
    def check(self, s, ink, *expected):
        self.check_film(ink_film(as_ratio(s), ink), *expected)

    def test_ordinary(self):
        self.check("1/2", (255, 0, 10), "1/2", "1/2", "255/2", 0, 5)
        self.check("2/3", (3, 1, 200), "1/3", "2/3", 2, "2/3", "400/3")

    def test_of_no_cover_it_is_the_clear_one(self):
        for ink in INKS:
            self.check(0, ink, *CLEAR)
            self.assertEqual(ink_film((0, 1), ink), clear_film())

    def test_of_the_whole_cover(self):
        for ink in INKS:
            self.check(1, ink, 0, 1, *ink)

    def test_the_inks_parts_in_order(self):
        self.check("1/10", (10, 20, 30), "9/10", "1/10", 1, 2, 3)

    def test_in_lowest_terms(self):
        self.assertEqual(ink_film((1, 85), (85, 0, 255)), ((84, 85), (1, 85), (1, 1), (0, 1), (3, 1)))
        self.assertEqual(ink_film((1, 6), (4, 3, 9)), ((5, 6), (1, 6), (2, 3), (1, 2), (3, 2)))

    def test_many(self):
        for s in self.each_strength(76, 60):
            for ink in INKS:
                self.check(s, ink, 1 - s, s, *[s * part for part in ink])


class RubFilm(Films):
    def check(self, s, *expected):
        self.check_film(rub_film(as_ratio(s)), *expected)

    def test_ordinary_and_the_ends(self):
        self.check("1/3", "2/3", 0, 0, 0, 0)
        self.check(0, *CLEAR)
        self.check(1, 0, 0, 0, 0, 0)
        self.assertEqual(rub_film((0, 1)), clear_film())

    def test_many(self):
        for s in self.each_strength(77, 60):
            self.check(s, 1 - s, 0, 0, 0, 0)

    def test_seen_it_leaves_the_rest_of_the_ground(self):
        self.check_parts(seen(rub_film((1, 4)), parts_of(1, 200, 100, "4/3")), (Fraction(3, 4), 150, 75, 1))
        self.check_parts(seen(rub_film((1, 1)), parts_of(1, 200, 100, "4/3")), (0, 0, 0, 0))


class Joined(Films):
    def test_ordinary(self):
        upper, lower = parts_of("1/2", "1/3", 1, 2, 3), parts_of("1/5", "3/5", 10, 20, 30)
        self.check_film(joined(upper, lower), "1/10", "19/30", 6, 12, 18)
        self.check_film(joined(lower, upper), "1/10", "2/3", "51/5", "102/5", "153/5")

    def test_the_clear_film_on_or_beneath(self):
        for film, numbers in self.each_film(78, 40):
            self.check_film(joined(film, clear_film()), *numbers)
            self.check_film(joined(clear_film(), film), *numbers)

    def test_beneath_a_film_that_lets_nothing_through(self):
        for film, numbers in self.each_film(79, 20):
            self.check_film(joined(parts_of(0, 1, 255, 0, 7), film), 0, 1, 255, 0, 7)
            self.check_film(joined(film, parts_of(0, 0, 0, 0, 0)), 0, *numbers[1:])

    def test_part_by_part(self):
        for upper, numbers in self.each_film(80, 12):
            for lower, others in self.each_film(81, 12):
                self.check_film(joined(upper, lower), *joined_by_words(numbers, others))

    def test_seen_as_the_first_on_what_the_second_makes(self):
        drawn = Drawn(82)
        for upper, numbers in self.each_film(83, 10):
            for lower, others in self.each_film(84, 10):
                for ground in [parts_of(*ground) for ground in GROUNDS] + [drawn_ground(drawn)]:
                    told = seen(joined(upper, lower), ground)
                    self.assertTrue(told == seen(upper, seen(lower, ground)))
                    self.check_parts(told, seen_by_words(numbers, seen_by_words(others, exact(ground))))

    def test_three_from_either_side(self):
        films = [film for film, numbers in self.each_film(85, 4)]
        for one in films:
            for other in films:
                for third in films:
                    self.assertTrue(joined(joined(one, other), third) == joined(one, joined(other, third)))

    def test_nine_on_one_another(self):
        drawn = Drawn(86)
        told, expected = clear_film(), CLEAR
        for _ in range(9):
            upper = drawn_film(drawn)
            told, expected = joined(upper, told), joined_by_words(exact(upper), expected)
            self.check_film(told, *expected)


class Mixed(Films):
    def test_ordinary(self):
        self.check_film(mixed(parts_of("1/2", "1/3", 1, 2, 3), (1, 4)), "7/8", "1/12", "1/4", "1/2", "3/4")
        self.check_film(mixed(parts_of(0, 1, 255, 0, 7), (2, 3)), "1/3", "2/3", 170, 0, "14/3")
        self.check_film(mixed(parts_of(0, 0, 0, 0, 0), (2, 3)), "1/3", 0, 0, 0, 0)

    def test_by_one_it_is_the_film(self):
        for film, numbers in self.each_film(87, 40):
            self.check_film(mixed(film, (1, 1)), *numbers)

    def test_by_nought_it_is_the_clear_one(self):
        for film, numbers in self.each_film(88, 40):
            self.check_film(mixed(film, (0, 1)), *CLEAR)
            self.assertEqual(mixed(film, (0, 1)), clear_film())

    def test_the_clear_film_stays_clear(self):
        for t in self.each_strength(89, 20):
            self.check_film(mixed(clear_film(), as_ratio(t)), *CLEAR)

    def test_many(self):
        for film, numbers in self.each_film(90, 30):
            for t in self.each_strength(91, 6):
                self.check_film(mixed(film, as_ratio(t)), *mixed_by_words(numbers, t))

    def test_twice_is_by_both_strengths_multiplied(self):
        for film, numbers in self.each_film(92, 20):
            for t in self.each_strength(93, 3):
                for again in self.each_strength(94, 3):
                    told = mixed(mixed(film, as_ratio(t)), as_ratio(again))
                    self.assertTrue(told == mixed(film, as_ratio(t * again)))

    def test_of_an_ink_it_is_the_ink_by_the_cover_multiplied(self):
        for s in self.each_strength(95, 10):
            for t in self.each_strength(96, 10):
                self.assertTrue(mixed(ink_film(as_ratio(s), (9, 255, 0)), as_ratio(t))
                                == ink_film(as_ratio(s * t), (9, 255, 0)))
                self.assertTrue(mixed(rub_film(as_ratio(s)), as_ratio(t)) == rub_film(as_ratio(s * t)))


class Alone(Films):
    def test_ordinary(self):
        self.check_film(alone(parts_of("1/2", "1/3", 1, 2, 3), (1, 4)), "11/12", "1/12", "1/4", "1/2", "3/4")
        self.check_film(alone(parts_of(0, 1, 255, 0, 7), (2, 3)), "1/3", "2/3", 170, 0, "14/3")

    def test_by_one_it_lets_through_all_that_it_does_not_cover(self):
        for film, numbers in self.each_film(97, 40):
            self.check_film(alone(film, (1, 1)), 1 - numbers[1], *numbers[1:])

    def test_by_nought_it_is_the_clear_one(self):
        for film, numbers in self.each_film(98, 40):
            self.check_film(alone(film, (0, 1)), *CLEAR)
            self.assertEqual(alone(film, (0, 1)), clear_film())

    def test_a_film_that_only_rubs_is_clear_alone(self):
        for s in self.each_strength(99, 10):
            for t in self.each_strength(100, 10):
                self.check_film(alone(rub_film(as_ratio(s)), as_ratio(t)), *CLEAR)

    def test_of_an_ink_it_is_as_mixed(self):
        for s in self.each_strength(101, 10):
            for t in self.each_strength(102, 10):
                film = ink_film(as_ratio(s), (255, 3, 0))
                self.assertTrue(alone(film, as_ratio(t)) == mixed(film, as_ratio(t)))

    def test_many(self):
        for film, numbers in self.each_film(103, 30):
            for t in self.each_strength(104, 6):
                self.check_film(alone(film, as_ratio(t)), *alone_by_words(numbers, t))


if __name__ == "__main__":
    unittest.main()
