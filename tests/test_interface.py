"""The names and arguments of the interface are there as they stand."""

import importlib
import inspect
import unittest

FUNCTIONS = {
    "ratios": ("ratio(top, bottom)", "plus(one, other)", "minus(one, other)", "times(one, other)",
               "parted(one, other)", "total(some)", "under(one, other)", "between(one, low, high)",
               "whole_part(one)"),
    "rings": ("sides(ring)", "area(ring)", "shape_area(shape)"),
    "cuts": ("height_over(line, P)", "cut(ring, line)", "cut_shape(shape, line)", "against(line)",
             "window(ring, left, right, low, high)", "window_shape(shape, left, right, low, high)"),
    "walks": ("pieces(width, height, side)", "fall(piece)", "right(piece)"),
    "sums": ("shares(width, height, shape)",),
}


class Interface(unittest.TestCase):
    def test_functions(self):
        for module, calls in FUNCTIONS.items():
            held = importlib.import_module(f"coverfill.{module}")
            for call in calls:
                name = call.partition("(")[0]
                self.assertEqual(f"{name}{inspect.signature(getattr(held, name))}", call)


if __name__ == "__main__":
    unittest.main()
