"""Point 27 (the desk, its rows, its answers, its refusals)."""

import re
import unittest
from fractions import Fraction

from checks import Drawn, area_by_strips, share_by_strips
from coverfill.desk import Desk
from coverfill.errors import CoverError, NoCell, NoLayer, NoName, NoPlace, NoRow, NoText
from patterns import ratio_by_pattern, shape_by_pattern
from recipes import CLEAR_GROUND, PictureByWords, films_by_words

WORDS = ("shape", "fill", "rub", "mask", "thin", "drop", "lift", "renew", "cell", "share", "area", "show")
BOX = "0,0 2,0 2,2 0,2"
LEFT = "0,0 1/2,0 1/2,2 0,2"
TURNED = "0,2 2,2 2,0 0,0"
THIRTY = "9" * 30
THIRTY_ONE = "1" + "0" * 30


class Desks(unittest.TestCase):
    def check_rows(self, desk, *rows):
        """Each row is a text and its answer, or a text and the class with which it is refused."""
        for row, answer in rows:
            if isinstance(answer, str):
                told = desk.say(row)
                self.assertIs(type(told), str, row)
                self.assertEqual(told, answer, row)
            else:
                self.check_refused(desk, row, answer)

    def check_refused(self, desk, row, refusal):
        with self.assertRaises(CoverError, msg=row) as caught:
            desk.say(row)
        self.assertIs(type(caught.exception), refusal, row)

    def desk(self, *rows, width=2, height=2):
        desk = Desk(width, height)
        for row in rows:
            desk.say(row)
        return desk


class Answers(Desks):
    def test_a_desk_at_work(self):
        self.check_rows(
            Desk(4, 3), ("shape a 0,0 4,0 4,3/2; 1,1 1,2 2,1", "ok"), ("fill a 255 0 9 1/2", "0"),
            ("renew", "0,0 1,0 2,0 3,0 2,1 3,1"), ("show", "0000/0001/0245"), ("cell 3 0", "1/2 255/2 0 9/2"),
            ("share a 3 0", "1"), ("share a 1 1", "-1/2"), ("area a", "5/2"), ("rub a 1", "1"), ("lift 1 0", "ok"),
            ("renew", "0,0 1,0 2,0 3,0 2,1 3,1"), ("show", "0000/0001/0245"), ("drop 0", "ok"),
            ("cell 3 0", "1/2 255/2 0 9/2"), ("renew", "0,0 1,0 2,0 3,0 2,1 3,1"), ("cell 3 0", "0 0 0 0"))

    def test_of_a_new_desk(self):
        for width, height in ((1, 1), (3, 2), (1, 4), (12, 12)):
            self.check_rows(Desk(width, height), ("show", "/".join(["0" * width] * height)), ("renew", "none"),
                            (f"cell {width - 1} {height - 1}", "0 0 0 0"), ("cell 0 0", "0 0 0 0"))

    def test_by_the_names_of_the_arguments(self):
        self.check_rows(Desk(width=3, height=1), ("show", "000"))

    def test_shape(self):
        desk = Desk(2, 2)
        self.check_rows(desk, (f"shape a {BOX}", "ok"), ("area a", "4"), (f"shape abcdefgh {TURNED}", "ok"),
                        ("area abcdefgh", "-4"), (f"shape z {BOX}; {LEFT}", "ok"), ("area z", "5"), ("area a", "4"))

    def test_shape_with_and_without_a_blank_behind_its_name(self):
        desk = self.desk(f"shape a {BOX}", f"shape b {BOX}")
        self.check_rows(desk, ("shape a", "ok"), ("area a", "0"), ("fill a 1 2 3 1", "0"), ("renew", "none"),
                        ("shape b ", "ok"), ("area b", "0"), ("share b 0 0", "0"), ("rub b 1", "1"), ("renew", "none"))

    def test_a_name_told_anew(self):
        desk = self.desk(f"shape a {LEFT}", "fill a 255 0 0 1", "rub a 1", "drop 1")
        self.check_rows(desk, (f"shape a {BOX}", "ok"), ("area a", "4"), ("renew", "0,0 0,1"),
                        ("cell 0 0", "1/2 255/2 0 0"), ("fill a 0 0 8 1/4", "2"), ("renew", "0,0 1,0 0,1 1,1"),
                        ("cell 0 0", "5/8 765/8 0 2"), ("shape a", "ok"), ("lift 0 1", "ok"), ("renew", "0,0 0,1"),
                        ("cell 0 0", "5/8 255/2 0 1"), ("cell 1 0", "1/4 0 0 2"))

    def test_names_that_are_words_of_rows(self):
        desk = Desk(2, 1)
        for number, word in enumerate(WORDS):
            self.check_rows(desk, (f"shape {word} 0,0 {number + 1},0 0,2", "ok"), (f"area {word}", str(number + 1)),
                            (f"fill {word} 0 0 0 1/2", str(number)), (f"mask {number} {word}", "ok"))
        self.check_rows(desk, ("share show 1 0", "1"), ("rub rub 1", "12"), ("shape ok 0,0", "ok"), ("area ok", "0"))

    def test_fill(self):
        desk = self.desk(f"shape a {LEFT}", f"shape b {BOX}")
        self.check_rows(desk, ("fill a 0 255 9 1", "0"), ("renew", "0,0 0,1"), ("cell 0 1", "1/2 0 255/2 9/2"),
                        ("fill b 10 0 200 2/3", "1"), ("fill a 0 0 0 0", "2"), ("renew", "0,0 1,0 0,1 1,1"),
                        ("cell 0 0", "5/6 20/3 85/2 809/6"), ("cell 1 1", "2/3 20/3 0 400/3"))

    def test_the_inks_in_order(self):
        desk = self.desk(f"shape a {BOX}", "fill a 1 2 3 1", "renew")
        self.check_rows(desk, ("cell 1 1", "1 1 2 3"))

    def test_rub(self):
        desk = self.desk(f"shape a {LEFT}", f"shape b {BOX}", "fill b 0 0 255 1")
        self.check_rows(desk, ("rub a 1", "1"), ("renew", "0,0 1,0 0,1 1,1"), ("cell 0 0", "1/2 0 0 255/2"),
                        ("cell 1 0", "1 0 0 255"), ("rub b 1/3", "2"), ("renew", "0,0 1,0 0,1 1,1"),
                        ("cell 0 0", "1/3 0 0 85"), ("rub b 0", "3"), ("renew", "none"))

    def test_mask(self):
        desk = self.desk(f"shape a {LEFT}", f"shape b {BOX}", "fill b 255 0 0 1", "fill b 0 0 4 1", "renew")
        self.check_rows(desk, ("mask 1 a", "ok"), ("cell 0 0", "1 0 0 4"), ("renew", "0,0 1,0 0,1 1,1"),
                        ("cell 0 0", "1 255/2 0 2"), ("cell 1 0", "1 255 0 0"), ("mask 1 a", "ok"),
                        ("renew", "0,0 0,1"), ("cell 0 0", "1 765/4 0 1"), ("rub b 1", "2"), ("lift 2 1", "ok"),
                        ("renew", "0,0 1,0 0,1 1,1"), ("cell 0 0", "1/4 0 0 1"), ("cell 1 0", "0 0 0 0"))

    def test_thin(self):
        desk = self.desk(f"shape a {LEFT}", f"shape b {BOX}", "fill b 255 0 0 1", "rub a 1", "renew")
        self.check_rows(desk, ("thin 0 2/3", "ok"), ("cell 1 1", "1 255 0 0"), ("renew", "0,0 1,0 0,1 1,1"),
                        ("cell 1 1", "2/3 170 0 0"), ("cell 0 0", "1/3 85 0 0"), ("thin 1 1/2", "ok"),
                        ("renew", "0,0 0,1"), ("cell 0 0", "1/2 255/2 0 0"), ("thin 1 0", "ok"), ("renew", "0,0 0,1"),
                        ("cell 0 0", "2/3 170 0 0"), ("thin 0 1", "ok"), ("renew", "0,0 1,0 0,1 1,1"),
                        ("cell 0 0", "2/3 170 0 0"), ("rub a 1", "2"))

    def test_six_deep(self):
        desk = self.desk(f"shape a {LEFT}", "fill a 64 0 0 1", "mask 0 a", "thin 0 1/2", "mask 0 a", "thin 0 1/2",
                         "mask 0 a", "renew")
        self.check_rows(desk, ("cell 0 0", "1/64 1 0 0"), ("cell 1 0", "0 0 0 0"))

    def test_a_mask_keeps_the_shape_that_stood_by_the_name(self):
        desk = self.desk(f"shape a {LEFT}", f"shape b {BOX}", "fill b 2 0 0 1", "mask 0 a", f"shape a {BOX}", "renew")
        self.check_rows(desk, ("cell 0 0", "1/2 1 0 0"))

    def test_drop(self):
        desk = self.desk(f"shape a {LEFT}", "fill a 2 0 0 1", "fill a 0 2 0 1")
        self.check_rows(desk, ("drop 0", "ok"), ("renew", "0,0 0,1"), ("cell 0 0", "1/2 0 1 0"), ("drop 0", NoLayer),
                        ("fill a 0 0 0 1", "2"), ("drop 2", "ok"), ("drop 1", "ok"), ("renew", "0,0 0,1"),
                        ("cell 0 0", "0 0 0 0"), ("rub a 1", "3"))

    def test_lift(self):
        desk = self.desk(f"shape a {BOX}", "fill a 1 0 0 1", "fill a 2 0 0 1", "fill a 3 0 0 1", "renew")
        self.check_rows(desk, ("cell 0 0", "1 3 0 0"), ("lift 0 2", "ok"), ("renew", "0,0 1,0 0,1 1,1"),
                        ("cell 0 0", "1 1 0 0"), ("lift 2 2", "ok"), ("renew", "0,0 1,0 0,1 1,1"),
                        ("cell 0 0", "1 3 0 0"), ("lift 2 2", "ok"), ("renew", "none"), ("lift 0 1", "ok"),
                        ("lift 2 0", "ok"), ("lift 2 1", "ok"), ("renew", "0,0 1,0 0,1 1,1"), ("cell 0 0", "1 1 0 0"))

    def test_renew(self):
        desk = self.desk("shape a 1,0 2,0 2,1 1,1; 0,1 1,1 1,2 0,2", "shape b 2,0 3,0 3,1 2,1", width=3)
        self.check_rows(desk, ("fill a 0 0 0 1", "0"), ("renew", "1,0 0,1"), ("renew", "none"), ("rub b 1", "1"),
                        ("renew", "2,0"), ("drop 1", "ok"), ("lift 0 0", "ok"), ("renew", "2,0"), ("renew", "none"))

    def test_renew_on_the_largest_floor(self):
        desk = self.desk("shape a 10,11 12,11 12,12 10,12; 9,9 10,9 10,10 9,10", "fill a 0 0 0 1", width=12, height=12)
        self.check_rows(desk, ("renew", "9,9 10,11 11,11"))

    def test_cell(self):
        desk = self.desk("shape a 2,0 3,0 3,1/3 2,1/3", "fill a 255 6 0 1", "renew", width=3)
        self.check_rows(desk, ("cell 2 0", "1/3 85 2 0"), ("cell 0 0", "0 0 0 0"), ("cell 2 1", "0 0 0 0"))

    def test_share(self):
        desk = self.desk(f"shape a {BOX}; {LEFT}", f"shape b {TURNED}", "shape c 1,0 3,0 1,1", width=3)
        self.check_rows(desk, ("share a 0 0", "3/2"), ("share a 1 1", "1"), ("share a 2 1", "0"), ("share b 0 1", "-1"),
                        ("share c 0 0", "0"), ("share c 1 0", "3/4"), ("share c 2 0", "1/4"), ("share c 2 1", "0"))

    def test_area(self):
        desk = self.desk("shape a -5,0 7,0 0,1/9", f"shape b 0,0 {THIRTY},0 0,1/{THIRTY}", "shape c 0,0")
        self.check_rows(desk, ("area a", "2/3"), ("area b", "1/2"), ("area c", "0"))

    def test_numbers_longer_than_thirty_figures_are_told(self):
        number = int(THIRTY)
        desk = self.desk(f"shape a 0,0 {THIRTY},0 0,{THIRTY}", f"shape b 0,0 1/{THIRTY},0 0,1/{number - 1}",
                         f"fill b 255 0 0 1/{number - 2}", "renew")
        least = Fraction(1, 2 * number * (number - 1) * (number - 2))
        self.check_rows(desk, ("area a", str(Fraction(number ** 2, 2))),
                        ("share b 0 0", str(Fraction(1, 2 * number * (number - 1)))),
                        ("cell 0 0", f"{least} {255 * least} 0 0"), ("show", "00/00"))

    def test_strengths_and_inks_at_their_ends(self):
        desk = self.desk(f"shape a {BOX}")
        self.check_rows(desk, ("fill a 0 255 0 0", "0"), ("fill a 255 0 255 1", "1"), ("rub a 0", "2"),
                        ("rub a 1", "3"), ("thin 1 0", "ok"), ("thin 1 1", "ok"), (f"fill a 0 0 0 1/{THIRTY}", "4"),
                        (f"rub a {int(THIRTY) - 1}/{THIRTY}", "5"))


class Show(Desks):
    def test_the_signs(self):
        for strength, sign in (("0", "0"), ("1/11", "0"), ("1/10", "1"), ("19/100", "1"), ("1/5", "2"), ("1/3", "3"),
                               ("2/5", "4"), ("1/2", "5"), ("3/5", "6"), ("7/10", "7"), ("4/5", "8"), ("9/10", "9"),
                               ("99/100", "9"), (f"{int(THIRTY) - 1}/{THIRTY}", "9"), ("1", "#")):
            desk = self.desk(f"shape a {BOX}", f"fill a 0 0 0 {strength}", "renew", width=1, height=1)
            self.check_rows(desk, ("show", sign))

    def test_the_highest_row_first_and_by_columns(self):
        desk = self.desk("shape a 0,0 1,0 1,1 0,1", "shape b 2,1 3,1 3,2 2,2", "fill a 0 0 0 1", "fill b 0 0 0 1/2",
                         "renew", width=3)
        self.check_rows(desk, ("show", "005/#00"))

    def test_a_whole_floor(self):
        desk = self.desk("shape a -1,-1 13,-1 13,13 -1,13", "fill a 0 0 0 1", "renew", width=12, height=12)
        self.check_rows(desk, ("show", "/".join(["#" * 12] * 12)))

    def test_what_it_was_when_last_renewed(self):
        desk = self.desk(f"shape a {BOX}", "fill a 0 0 0 1")
        self.check_rows(desk, ("show", "00/00"), ("renew", "0,0 1,0 0,1 1,1"), ("show", "##/##"), ("rub a 1/2", "1"),
                        ("drop 0", "ok"), ("show", "##/##"), ("renew", "0,0 1,0 0,1 1,1"), ("show", "00/00"))


class RefusedRows(Desks):
    """NoRow, and what is none of it."""

    def desk_at_work(self):
        return self.desk(f"shape a {BOX}", f"shape b {LEFT}", "fill a 9 9 9 1", "fill b 8 0 8 1/2", "renew", "lift 0 1",
                         f"shape area {LEFT}", f"shape fill {BOX}")

    def check_nothing_changed(self, desk):
        self.check_rows(desk, ("show", "##/##"), ("cell 0 0", "1 35/4 27/4 35/4"), ("renew", "0,0 1,0 0,1 1,1"),
                        ("cell 0 0", "1 9 9 9"), ("renew", "none"), ("area a", "4"), ("area b", "1"),
                        ("area c", NoName), ("rub b 1", "2"), ("lift 2 2", "ok"), ("lift 2 3", NoPlace))

    def check_each(self, refusal, rows):
        for row in rows:
            desk = self.desk_at_work()
            self.check_refused(desk, row, refusal)
            self.check_nothing_changed(desk)

    def test_the_desk_as_it_is(self):
        self.check_nothing_changed(self.desk_at_work())

    def test_first_words(self):
        self.check_each(NoRow, ("", " ", "  ", "a", "ok", "none", "paint a 1 1 1 1", "Shape a", "SHOW", "Renew", "sho",
                                "shows", "renewed", "0", "-", "shape\n", "renew\n", "\nrenew", "show\t", "fill\ta",
                                "shape,a", "show;", "renew;renew", "renew\nrenew", "cells 0 0", "add a", "numbers",
                                "say show", "text", "name a", "number 0", "strength 1"))

    def test_blanks_at_the_ends(self):
        rows = ["fill a 1 2 3 1", "rub a 1", "mask 0 a", "thin 0 1", "drop 0", "lift 0 1", "renew", "cell 0 0",
                "share a 0 0", "area a", "show"]
        self.check_each(NoRow, [f" {row}" for row in rows + [f"shape a {BOX}"]])
        self.check_each(NoRow, [f"{row} " for row in rows])

    def test_words_parted_by_two_blanks(self):
        rows = ["fill a 1 2 3 1", "rub a 1", "mask 0 a", "thin 0 1", "drop 0", "lift 0 1", "cell 0 0", "share a 0 0",
                "area a"]
        for row in rows:
            words = row.split(" ")
            self.check_each(NoRow, [" ".join(words[:k]) + "  " + " ".join(words[k:]) for k in range(1, len(words))])
            self.check_each(NoRow, [" ".join(words[:k]) + "\t" + " ".join(words[k:]) for k in range(1, len(words))])
        self.check_each(NoRow, (f"shape  a {BOX}", "shape  a", "shape   "))

    def test_too_few_words(self):
        self.check_each(NoRow, ("shape", "shape ", "fill", "fill a", "fill a 1", "fill a 1 2", "fill a 1 2 3", "rub",
                                "rub a", "mask", "mask 0", "thin", "thin 0", "drop", "lift", "lift 0", "cell", "cell 0",
                                "share", "share a", "share a 0", "area"))
        self.check_each(NoRow, ("fill ", "rub ", "mask ", "mask 0 ", "thin ", "drop ", "lift ", "lift 0 ", "cell ",
                                "cell 0 ", "share ", "share a ", "share a 0 ", "area ", "fill a 1 2 "))

    def test_too_many_words(self):
        self.check_each(NoRow, ("fill a 1 2 3 1 1", "fill a 1 2 3 4 1", "rub a 1 1", "rub a b 1", "mask 0 a a",
                                "mask 0 0 a", "thin 0 1 1", "thin 0 0 1", "drop 0 1", "lift 0 1 1", "renew 0",
                                "renew renew", "cell 0 0 0", "share a 0 0 0", "share a b 0 0", "area a b", "area a 0",
                                "show 0", "show a"))

    def test_names_that_are_none(self):
        for name in ("", "A", "aB", "a1", "1", "0", "a_b", "a-b", "abcdefghi", "a" * 100, "\u00e4", "\u0430", "a\n",
                     "\na", "a,", "a;", "*", "\u00aa", "a\u0301", "\u212a", "\u017f"):
            self.check_each(NoRow, (f"shape {name} {BOX}", f"shape {name}", f"shape {name} ", f"fill {name} 1 2 3 1",
                                    f"rub {name} 1", f"mask 0 {name}", f"share {name} 0 0", f"area {name}"))

    def test_numbers_that_are_none(self):
        for number in ("", "-1", "-0", "+1", "00", "01", "1/2", "1/1", "a", "1.0", "1.", "1e1", "0x1", "1_0",
                       THIRTY_ONE, "1" * 5000, "-" + THIRTY, "\u0661", "\uff10", "\u00b2", "0\n", "\n0", "0,", "-"):
            self.check_each(NoRow, (f"mask {number} a", f"thin {number} 1", f"drop {number}", f"lift {number} 0",
                                    f"lift 0 {number}", f"cell {number} 0", f"cell 0 {number}", f"share a {number} 0",
                                    f"share a 0 {number}"))

    def test_inks_that_are_none(self):
        for ink in ("", "256", "1000", THIRTY, THIRTY_ONE, "1" * 5000, "-1", "-0", "+1", "00", "01", "0255", "1/2",
                    "1/1", "a", "\u0661", "\uff10", "0\n"):
            self.check_each(NoRow, (f"fill a {ink} 0 0 1", f"fill a 0 {ink} 0 1", f"fill a 0 0 {ink} 1"))

    def test_texts_that_are_none(self):
        for text in (" ", "  ", f"{BOX} ", f" {BOX}", f"{BOX};", f"{BOX}; ", f"; {BOX}", f"{BOX};{LEFT}", "0", "0,0,0",
                     "0,0  1,1", "2/4,0", "1/0,0", "-0,0", "01,0", ",", ";", "a", f"{BOX}\n", f"0,{THIRTY_ONE}",
                     "; ".join(["0,0"] * 13), " ".join(["0,0"] * 41)):
            self.check_each(NoText, (f"shape a {text}", f"shape c {text}"))

    def test_strengths_that_are_none(self):
        for strength in ("", "2", "-1", "3/2", "-1/2", "2/4", "1/1", "0/1", "0/5", "1/0", "-0", "+1", "01", "a", "1.0",
                         "1/-2", f"{int(THIRTY)}/{int(THIRTY) - 1}", f"-1/{THIRTY}", f"1/{THIRTY_ONE}", THIRTY_ONE,
                         "\u0661", "1\n", "\u00bd", "-", "/", "1/", "1,0"):
            self.check_each(NoText, (f"fill a 1 2 3 {strength}", f"rub a {strength}", f"thin 0 {strength}"))

    def test_names_by_which_no_shape_stands(self):
        for name in ("c", "aa", "ab", "shape", "rub", "abcdefgh"):
            self.check_each(NoName, (f"fill {name} 1 2 3 1", f"rub {name} 1", f"mask 0 {name}", f"share {name} 0 0",
                                     f"area {name}"))

    def test_numbers_by_which_no_layer_lies(self):
        for number in ("2", "10", THIRTY):
            self.check_each(NoLayer, (f"mask {number} a", f"thin {number} 1", f"drop {number}", f"lift {number} 0"))

    def test_places_that_are_none(self):
        self.check_each(NoPlace, ("lift 0 2", "lift 1 2", "lift 0 3", f"lift 1 {THIRTY}"))

    def test_cells_that_are_not_on_the_floor(self):
        for column, row in (("2", "0"), ("0", "2"), ("2", "2"), (THIRTY, "0"), ("1", THIRTY), ("12", "12")):
            self.check_each(NoCell, (f"cell {column} {row}", f"share a {column} {row}"))

    def test_column_and_row_are_not_mixed_up(self):
        desk = self.desk(f"shape a {BOX}", width=3, height=1)
        self.check_rows(desk, ("cell 2 0", "0 0 0 0"), ("cell 0 2", NoCell), ("cell 0 1", NoCell), ("cell 3 0", NoCell),
                        ("share a 2 0", "0"), ("share a 0 2", NoCell), ("share a 1 1", NoCell), ("share a 3 0", NoCell))


class InTheirOrder(Desks):
    """Where several refusals are due in one row the first one of the order is told."""

    def test_no_row_ahead_of_all(self):
        desk = self.desk(f"shape a {BOX}", "fill a 1 1 1 1")
        self.check_rows(desk, ("shape A ,", NoRow), ("shape  ,", NoRow), ("fill c 256 0 0 2", NoRow),
                        ("fill c 0 0 -1 ", NoRow), ("fill C 0 0 0 2", NoRow), ("fill c 0 0 0 2 2", NoRow),
                        ("rub C 2", NoRow), ("rub c 2 2", NoRow), ("mask -1 c", NoRow), ("mask 9 C", NoRow),
                        ("mask 9 c c", NoRow), ("thin -1 2", NoRow), ("thin 9 2 2", NoRow), ("thin 01 ", NoRow),
                        ("drop -1", NoRow), ("drop 9 9", NoRow), ("lift 9 -1", NoRow), ("lift 0 -1", NoRow),
                        ("lift 9 9 9", NoRow), ("cell 9 -1", NoRow), ("cell 9 9 9", NoRow), ("share c 9 -1", NoRow),
                        ("share C 9 9", NoRow), ("share c 9 9 9", NoRow), ("area c c", NoRow), ("area C", NoRow))

    def test_no_text_ahead_of_no_name_and_no_layer(self):
        desk = self.desk(f"shape a {BOX}", "fill a 1 1 1 1")
        self.check_rows(desk, ("fill c 0 0 0 2", NoText), ("fill c 0 0 0 ", NoText), ("fill c 0 0 0 2/4", NoText),
                        ("rub c 2", NoText), ("rub c ", NoText), ("thin 9 2", NoText), ("thin 9 ", NoText),
                        ("thin 9 -1", NoText), ("thin 9 2/2", NoText))

    def test_no_name_ahead_of_no_layer_and_no_cell(self):
        desk = self.desk(f"shape a {BOX}", "fill a 1 1 1 1")
        self.check_rows(desk, ("mask 9 c", NoName), ("share c 9 9", NoName), ("share c 0 9", NoName))

    def test_no_layer_ahead_of_no_place(self):
        desk = self.desk(f"shape a {BOX}", "fill a 1 1 1 1")
        self.check_rows(desk, ("lift 9 9", NoLayer), ("lift 0 9", NoPlace), ("lift 1 1", NoLayer),
                        ("lift 0 1", NoPlace))

    def test_each_alone(self):
        desk = self.desk(f"shape a {BOX}", "fill a 1 1 1 1")
        self.check_rows(desk, ("fill c 0 0 0 1", NoName), ("rub c 1", NoName), ("thin 9 1", NoLayer),
                        ("mask 9 a", NoLayer), ("share a 9 9", NoCell), ("cell 9 9", NoCell), ("shape a ,", NoText))

    def test_a_strength_without_signs_is_no_text_and_none_at_all_no_row(self):
        desk = self.desk(f"shape a {BOX}", "fill a 1 1 1 1")
        self.check_rows(desk, ("rub a ", NoText), ("rub a", NoRow), ("rub a  ", NoRow), ("fill a 1 1 1 ", NoText),
                        ("fill a 1 1 1", NoRow), ("fill a 1 1 1  ", NoRow), ("thin 0 ", NoText), ("thin 0", NoRow),
                        ("thin 0  ", NoRow), ("rub a  1", NoRow), ("rub a 1", "1"))

    def test_the_next_layer_has_the_next_number(self):
        desk = self.desk(f"shape a {BOX}")
        for number in range(5):
            self.check_rows(desk, ("fill a 1 1 1 2", NoText), ("rub a 2", NoText), ("fill c 1 1 1 1", NoName),
                            ("rub c 1", NoName), ("fill a 1 1 256 1", NoRow), ("drop 9", NoLayer),
                            ("rub a 1" if number % 2 else "fill a 1 1 1 1", str(number)))


class TwoDesks(Desks):
    def test_they_know_nothing_of_one_another(self):
        one, other = Desk(2, 2), Desk(2, 2)
        self.check_rows(one, (f"shape a {BOX}", "ok"), ("fill a 1 2 3 1", "0"), ("renew", "0,0 1,0 0,1 1,1"))
        self.check_rows(other, ("area a", NoName), ("drop 0", NoLayer), ("show", "00/00"), ("renew", "none"),
                        (f"shape a {LEFT}", "ok"), ("rub a 1", "0"), ("fill a 0 0 0 1", "1"), ("renew", "0,0 0,1"))
        self.check_rows(one, ("area a", "4"), ("show", "##/##"), ("drop 1", NoLayer), ("renew", "none"))


# What stands behind the first word of each row, by a pattern each.
NAME = "([a-z]{1,8})"
NUMBER = "(0|[1-9][0-9]{0,29})"
INK = "(0|[1-9][0-9]?|1[0-9][0-9]|2[0-4][0-9]|25[0-5])"
STRENGTH = "([^ ]*)"
ROWS = {"shape": f"{NAME}(?: (.*))?", "fill": f"{NAME} {INK} {INK} {INK} {STRENGTH}", "rub": f"{NAME} {STRENGTH}",
        "mask": f"{NUMBER} {NAME}", "thin": f"{NUMBER} {STRENGTH}", "drop": NUMBER, "lift": f"{NUMBER} {NUMBER}",
        "renew": "", "cell": f"{NUMBER} {NUMBER}", "share": f"{NAME} {NUMBER} {NUMBER}", "area": NAME, "show": ""}


class DeskByWords:
    """A desk by the words of point 27; layers are recipes, each with its films by cells and how deep it is."""

    def __init__(self, width, height):
        self.width, self.height = width, height
        self.picture = PictureByWords(lambda laid: laid[1])
        self.shapes = {}
        self.grounds = {(column, row): CLEAR_GROUND for row in range(height) for column in range(width)}

    def laid(self, recipe, deep):
        return (recipe, films_by_words(recipe, self.width, self.height), deep)

    def found(self, row):
        for word, pattern in ROWS.items():
            found = re.fullmatch(f"{word} {pattern}" if pattern else word, row, re.DOTALL)
            if found:
                return word, list(found.groups())
        raise NoRow

    def strength(self, text):
        one = ratio_by_pattern(text)
        if one is None or not 0 <= Fraction(*one) <= 1:
            raise NoText
        return Fraction(*one)

    def shape(self, name):
        if name not in self.shapes:
            raise NoName
        return self.shapes[name]

    def layer(self, number):
        if int(number) not in self.picture.numbers():
            raise NoLayer
        return int(number)

    def cell(self, column, row):
        if (int(column), int(row)) not in self.grounds:
            raise NoCell
        return int(column), int(row)

    def say(self, row):
        word, parts = self.found(row)
        return getattr(self, f"say_{word}")(*parts)

    def say_shape(self, name, text):
        shape = shape_by_pattern(text or "")
        if shape is None:
            raise NoText
        self.shapes[name] = shape
        return "ok"

    def say_fill(self, name, red, green, blue, strength):
        strength = self.strength(strength)
        ink = (int(red), int(green), int(blue))
        return str(self.picture.add(self.laid(("fill", self.shape(name), ink, strength), 1)))

    def say_rub(self, name, strength):
        strength = self.strength(strength)
        return str(self.picture.add(self.laid(("rub", self.shape(name), strength), 1)))

    def say_mask(self, number, name):
        shape = self.shape(name)
        recipe, films, deep = self.picture.thing_by(self.layer(number))
        self.picture.change(int(number), self.laid(("masked", shape, recipe), deep + 1))
        return "ok"

    def say_thin(self, number, strength):
        strength = self.strength(strength)
        recipe, films, deep = self.picture.thing_by(self.layer(number))
        self.picture.change(int(number), self.laid(("join", [recipe], strength), deep + 1))
        return "ok"

    def say_drop(self, number):
        self.picture.drop(self.layer(number))
        return "ok"

    def say_lift(self, number, place):
        self.layer(number)
        if int(place) >= len(self.picture.row):
            raise NoPlace
        self.picture.lift(int(number), int(place))
        return "ok"

    def say_renew(self):
        self.grounds = {cell: self.picture.ground(*cell) for cell in self.grounds}
        return " ".join(f"{column},{row}" for column, row in self.picture.renew()) or "none"

    def say_cell(self, column, row):
        return " ".join(str(part) for part in self.grounds[self.cell(column, row)])

    def say_share(self, name, column, row):
        shape = self.shape(name)
        return str(share_by_strips(*self.cell(column, row), shape))

    def say_area(self, name):
        return str(sum((area_by_strips(ring) for ring in self.shape(name)), Fraction(0)))

    def say_show(self):
        signs = {cell: "#" if ground[0] == 1 else str(int(10 * ground[0])) for cell, ground in self.grounds.items()}
        return "/".join("".join(signs[column, row] for column in range(self.width))
                        for row in reversed(range(self.height)))


class ManyRows(unittest.TestCase):
    """Rows drawn from a fixed seed, right and wrong ones, answered as by the words of the document."""

    TEXTS = ("", BOX, LEFT, TURNED, f"{BOX}; {LEFT}", "-1,-1 5,0 4,3 1/2,7/3", "0,0 4,4 4,0 0,4", "1,1 3,1 2,3", "0,0",
             "1,0 2,0 2,1 1,1; 1/3,1/3 1/3,2/3 2/3,1/2", "0,0 1,1;", "2/4,0", " ", "0,0  1,1", "0 0")
    STRENGTHS = ("0", "1", "1/2", "2/3", "1/7", "9/10", "1/3", "2", "-1/2", "2/4", "", "a", "1/0")

    def word(self, drawn, kind):
        """A word of the kind, mostly one that is right."""
        if kind == "name":
            return drawn.chance.choice(("a", "a", "b", "b", "c", "show", "abcdefgh", "zz", "A", "", "abcdefghi"))
        if kind == "ink":
            return drawn.chance.choice(("0", "255", str(drawn.chance.randint(0, 255)), "7") * 6 + ("256", "-1", "01"))
        if kind == "strength":
            return drawn.chance.choice(self.STRENGTHS)
        return drawn.chance.choice(("0", "1", "2", "3", "4", str(drawn.chance.randint(0, 30))) * 5 + ("-1", "", "00"))

    def row(self, drawn):
        kinds = {"shape": "", "fill": "name ink ink ink strength", "rub": "name strength", "mask": "number name",
                 "thin": "number strength", "drop": "number", "lift": "number number", "renew": "",
                 "cell": "number number", "share": "name number number", "area": "name", "show": "", "paint": "name"}
        first = drawn.chance.choice(list(kinds) + ["shape", "fill", "fill", "renew", "lift", "cell"])
        words = [first] + [self.word(drawn, kind) for kind in kinds[first].split()]
        if first == "shape":
            words += [self.word(drawn, "name"), drawn.chance.choice(self.TEXTS)]
        if drawn.chance.random() < 0.04:
            words.insert(drawn.chance.randint(0, len(words)), drawn.chance.choice(("", "0", "a", "1")))
        if drawn.chance.random() < 0.04:
            words.pop()
        return " ".join(words)

    def too_much(self, row, words):
        """Whether the row would make the model slow, or a layer deeper than six."""
        first = row.split(" ")[0]
        if first in ("fill", "rub"):
            return len(words.picture.row) >= 7
        return first in ("mask", "thin") and any(laid[2] >= 6 for number, laid in words.picture.row)

    def answer(self, desk, row):
        try:
            return desk.say(row)
        except CoverError as refusal:
            return type(refusal)

    def check_many(self, seed, floor, count):
        drawn, desk, words, answers = Drawn(seed), Desk(*floor), DeskByWords(*floor), set()
        for _ in range(count):
            row = self.row(drawn)
            if self.too_much(row, words):
                row = f"drop {drawn.chance.choice(words.picture.numbers())}"
            answer = self.answer(words, row)
            self.assertEqual(self.answer(desk, row), answer, row)
            answers.add(answer)
        return answers

    def test_on_floors_of_several_sizes(self):
        for seed, floor in enumerate(((1, 1), (2, 2), (3, 2), (1, 4), (4, 3)), 161):
            answers = self.check_many(seed, floor, 1200)
            for one in (NoRow, NoText, NoName, NoLayer, NoPlace, NoCell, "ok", "none"):
                self.assertIn(one, answers)


if __name__ == "__main__":
    unittest.main()
