"""The names and arguments of the interface are there as they stand."""

import importlib
import inspect
import unittest

FUNCTIONS = {
    "ratios": ("ratio(top, bottom)", "plus(one, other)", "minus(one, other)", "times(one, other)",
               "parted(one, other)", "total(some)", "under(one, other)", "between(one, low, high)",
               "whole_part(one)"),
    "rings": ("sides(ring)", "area(ring)", "shape_area(shape)"),
    "cuts": ("height_over(line, P)", "cut(ring, line)", "cut_shape(shape, line)", "against(line)",
             "window(ring, left, right, low, high)", "window_shape(shape, left, right, low, high)"),
    "walks": ("pieces(width, height, side)", "fall(piece)", "right(piece)"),
    "sums": ("shares(width, height, shape)",),
    "windings": ("winding(shape, P)",),
    "changes": ("moved(shape, across, up)", "scaled(shape, by)", "quartered(shape, height)",
                "mirrored(shape, width)", "turned_round(shape)"),
    "films": ("cover(share)", "clear_film()", "seen(film, ground)", "ink_film(s, ink)", "rub_film(s)",
              "joined(upper, lower)", "mixed(film, t)", "alone(film, t)"),
}


class Interface(unittest.TestCase):
    def test_functions(self):
        for module, calls in FUNCTIONS.items():
            held = importlib.import_module(f"coverfill.{module}")
            for call in calls:
                name = call.partition("(")[0]
                self.assertEqual(f"{name}{inspect.signature(getattr(held, name))}", call)


if __name__ == "__main__":
    unittest.main()
