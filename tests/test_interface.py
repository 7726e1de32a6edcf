"""The names and arguments of the interface are there as they stand."""

import importlib
import inspect
import unittest

FUNCTIONS = {
    "ratios": ("ratio(top, bottom)", "plus(one, other)", "minus(one, other)", "times(one, other)",
               "parted(one, other)", "total(some)", "under(one, other)", "between(one, low, high)",
               "whole_part(one)"),
    "rings": ("sides(ring)", "area(ring)", "shape_area(shape)"),
    "cuts": ("height_over(line, P)", "cut(ring, line)", "cut_shape(shape, line)", "against(line)",
             "window(ring, left, right, low, high)", "window_shape(shape, left, right, low, high)"),
    "walks": ("pieces(width, height, side)", "fall(piece)", "right(piece)"),
    "sums": ("shares(width, height, shape)",),
    "windings": ("winding(shape, P)",),
    "changes": ("moved(shape, across, up)", "scaled(shape, by)", "quartered(shape, height)",
                "mirrored(shape, width)", "turned_round(shape)"),
    "films": ("cover(share)", "clear_film()", "seen(film, ground)", "ink_film(s, ink)", "rub_film(s)",
              "joined(upper, lower)", "mixed(film, t)", "alone(film, t)"),
    "words": ("show_ratio(one)", "show_shape(shape)", "read_ratio(text)", "read_shape(text)"),
}

LAYER_METHODS = ("films(width, height)", "touched(width, height)")

# Each class as it is made, and its methods as they are asked.
CLASSES = {
    "layers": (("Fill(shape, ink, strength=None)", LAYER_METHODS), ("Rub(shape, strength=None)", LAYER_METHODS),
               ("Masked(shape, layer)", LAYER_METHODS), ("Join(layers, strength=None)", LAYER_METHODS),
               ("Group(layers, strength=None)", LAYER_METHODS)),
    "pictures": (("Picture(width, height, watcher=None)",
                  ("add(layer)", "drop(number)", "change(number, layer)", "lift(number, place)", "numbers()", "renew()",
                   "cells()")),),
    "desk": (("Desk(width, height)", ("say(row)",)),),
}


class Interface(unittest.TestCase):
    def check_call(self, held, call, left_out=""):
        name = call.partition("(")[0]
        told = f"{name}{inspect.signature(getattr(held, name))}".replace(left_out, "")
        self.assertEqual(told, call)

    def test_functions(self):
        for module, calls in FUNCTIONS.items():
            held = importlib.import_module(f"coverfill.{module}")
            for call in calls:
                self.check_call(held, call)

    def test_classes(self):
        for module, classes in CLASSES.items():
            held = importlib.import_module(f"coverfill.{module}")
            for made, methods in classes:
                self.check_call(held, made)
                kind = getattr(held, made.partition("(")[0])
                for method in methods:
                    self.check_call(kind, method, "self" if "()" in method else "self, ")

    def test_the_base_of_the_layers(self):
        layers = importlib.import_module("coverfill.layers")
        self.assertTrue(inspect.isclass(layers.Layer))


if __name__ == "__main__":
    unittest.main()
