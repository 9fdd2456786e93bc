"""Conventions: [A3] and the interface, and [A2] (a) for curves and step curves."""

import importlib
import inspect
import pathlib
import unittest

from tests.oracle import Draw, curve_knots, pair
from tests.support import PARAMETERS, Case, run_examples
from unsureworks.curves import (curve_scaled, curve_shifted, curve_stretched, curves_added, curves_multiplied,
                                cut_curve)
from unsureworks.numbers import over
from unsureworks.stepcurves import heap_step, step_scaled, steps_added, steps_multiplied

INTERFACE = {
    "numbers": "is_fraction plus less times over order fraction_text read_fraction",
    "polynomials": "at added multiplied scaled slope_of heap_of shifted stretched",
    "curves": "curve_error sides curves_added curves_multiplied curve_scaled curve_shifted curve_stretched cut_curve "
              "whole from_to below_at",
    "stepcurves": "step_error step_at ahead_at behind_at steps_added steps_multiplied step_scaled heap_step",
    "spreads": "spread_error even lump tent heaped chance_of mean moment ends",
    "spreadtexts": "spread_text read_spread",
    "making": "moved grown apart joined joined_often greater lesser kth mixed held rounded",
    "roots": "number_error order_of near roots_of quantile",
    "signs": "sign_paper sign_holds",
    "orders": "later_at never_later_paper never_later_holds worse_at never_worse_paper never_worse_holds close_paper "
              "close_holds",
    "forms": "program_error saying_error form_at run holds",
    "bodies": "point_in no_point_holds",
    "cells": "cells cells_error saying_cells",
    "worlds": "world_error is_numbers",
    "integrals": "body_integral",
    "chances": "chance chance_given mean_of mean_product",
    "values": "spread_of by_parts unlike_at above_at surely_alike alike_in_spread",
    "learnt": "are_apart tie_at look helped",
    "lines": "chance_line sooner",
    "sheettexts": "sheet_text read_sheet",
}
CLASSES = {
    "sheets": {
        "Sheet": {"__init__": "", "put": "name content", "drop": "name", "see": "remark", "forget": "place", "batch": "edits", "chance": "remark",
                  "mean": "name", "spread": "name", "undo": "", "redo": "", "at": "version", "copy": "", "attempt": "work"},
        "KeptSheet": {"__init__": "value remark least", "copy": ""},
    },
    "shells": {"Shell": {"__init__": "", "say": "line"}},
}


class TestInterface(unittest.TestCase):

    def test_each_function_stands_in_its_module(self):
        for module, names in INTERFACE.items():
            for name in names.split():
                with self.subTest(name):
                    found = getattr(importlib.import_module(f"unsureworks.{module}"), name)
                    self.assertEqual(found.__module__, f"unsureworks.{module}")
                    self.assertTrue(inspect.isfunction(found))
                    self.assertEqual(list(inspect.signature(found).parameters), PARAMETERS[name].split())

    def test_each_class_stands_in_its_module(self):
        for module, classes in CLASSES.items():
            for name, methods in classes.items():
                found = getattr(importlib.import_module(f"unsureworks.{module}"), name)
                self.assertTrue(inspect.isclass(found))
                self.assertEqual(found.__module__, f"unsureworks.{module}")
                for method, parameters in methods.items():
                    with self.subTest((name, method)):
                        self.assertIn(method, vars(found))
                        self.assertEqual(list(inspect.signature(vars(found)[method]).parameters), ["self"] + parameters.split())


class TestReadme(Case):

    def test_examples(self):
        text = (pathlib.Path(__file__).resolve().parent.parent / "README.md").read_text()
        lines = [line for line in text.split("\n") if line.startswith("    ")]
        self.assertGreater(len([line for line in lines if line.startswith("    >>> ")]), 10)
        run_examples(self, "\n".join(lines))


class TestEqualValues(Case):

    def setUp(self):
        draw = Draw(50)
        self.curves = [(draw.curve(), draw.curve(), draw.curve()) for _ in range(60)]
        self.steps = [(draw.step(), draw.step(), draw.step()) for _ in range(40)]

    def test_curves_made_in_other_ways(self):
        for one, other, third in self.curves:
            both = curves_added(one, other)
            self.gives(curves_added, (other, one), both)
            self.gives(curves_added, (both, third), curves_added(one, curves_added(other, third)))
            self.gives(curves_multiplied, (other, one), curves_multiplied(one, other))
            self.gives(curves_multiplied, (both, third),
                       curves_added(curves_multiplied(one, third), curves_multiplied(other, third)))
            self.gives(curves_added, (both, curve_scaled(other, (-1, 1))), one)
            self.gives(curve_scaled, (curve_scaled(one, (2, 3)), (3, 2)), one)
            self.gives(curves_added, (one, one), curve_scaled(one, (2, 1)))

    def test_curves_moved_there_and_back(self):
        for one, other, _ in self.curves:
            for f in ((2, 3), (-5, 1), (-1, 7)):
                self.gives(curve_shifted, (curve_shifted(one, f), (-f[0], f[1])), one)
                self.gives(curve_stretched, (curve_stretched(one, f), over((1, 1), f)), one)
                self.gives(curves_added, (curve_shifted(one, f), curve_shifted(other, f)),
                           curve_shifted(curves_added(one, other), f))

    def test_curves_cut_and_put_together(self):
        for one, other, _ in self.curves:
            for place in curve_knots(one, other) + [1]:
                low, high = cut_curve(one, (-99, 1), pair(place)), cut_curve(one, pair(place), (99, 1))
                self.gives(curves_added, (low, high), one)
                self.gives(curves_added, (high, low), one)

    def test_step_curves_made_in_other_ways(self):
        for one, other, third in self.steps:
            both = steps_added(one, other)
            self.gives(steps_added, (other, one), both)
            self.gives(steps_added, (both, third), steps_added(one, steps_added(other, third)))
            self.gives(steps_multiplied, (other, one), steps_multiplied(one, other))
            self.gives(steps_multiplied, (both, third),
                       steps_added(steps_multiplied(one, third), steps_multiplied(other, third)))
            self.gives(steps_added, (both, step_scaled(other, (-1, 1))), one)
            self.gives(steps_added, (one, one), step_scaled(one, (2, 1)))

    def test_heaps_made_in_other_ways(self):
        draw = Draw(51)
        for one, other, _ in self.curves:
            lumps = draw.lumps()
            self.gives(heap_step, (curves_added(one, other), lumps),
                       steps_added(heap_step(one, lumps), heap_step(other, ())))


if __name__ == "__main__":
    unittest.main()
