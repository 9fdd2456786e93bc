"""What the tests have in common: examples, calls made in all ways, values of all kinds."""

import copy
import unittest

from unsureworks import errors
from unsureworks.sheets import Sheet


def run_examples(case, text):
    """Run the lines behind ">>> " in text; a line without these tells what the one ahead gives, or raises."""
    names = {}
    lines = [line.strip() for line in text.strip().split("\n")]
    for place, line in enumerate(lines):
        if not line.startswith(">>> "):
            continue
        code = line[4:]
        told = lines[place + 1] if place + 1 < len(lines) else ">>> "
        with case.subTest(code):
            if told.startswith(">>> "):
                exec(code, names)
            elif told.startswith("raises "):
                case.assertEqual(outcome(eval, code, names), ("raised",) + told_error(told[7:]))
            else:
                case.assertEqual(repr(eval(code, names)), told)


def told_error(text):
    """The name and the attributes of an error that is written as the document does."""
    error = eval(text, vars(errors))
    return type(error).__name__, repr(vars(error))


def outcome(work, *args, **named):
    """What a call comes to, as something that tells also bools from integers and lists from tuples."""
    try:
        return "returned", repr(work(*args, **named))
    except ValueError as error:
        return "raised", type(error).__name__, repr(vars(error))


PARAMETERS = {
    "is_fraction": "value", "plus": "f g", "less": "f g", "times": "f g", "over": "f g", "order": "f g",
    "fraction_text": "f", "read_fraction": "value",
    "at": "p f", "added": "p q", "multiplied": "p q", "scaled": "p f",
    "slope_of": "p", "heap_of": "p", "shifted": "p f", "stretched": "p f",
    "curve_error": "value", "sides": "curve f", "curves_added": "one other", "curves_multiplied": "one other",
    "curve_scaled": "curve f", "curve_shifted": "curve f", "curve_stretched": "curve f",
    "cut_curve": "curve low high", "whole": "curve", "from_to": "curve low high", "below_at": "curve",
    "step_error": "value", "step_at": "step f", "ahead_at": "step f", "behind_at": "step f",
    "steps_added": "one other", "steps_multiplied": "one other", "step_scaled": "step f", "heap_step": "curve lumps",
    "spread_error": "value", "even": "low high", "lump": "place", "tent": "low top high", "heaped": "spread",
    "chance_of": "spread low high low_in high_in", "mean": "spread", "moment": "spread k", "ends": "spread",
    "spread_text": "spread", "read_spread": "value",
    "moved": "spread f", "grown": "spread f", "apart": "spread place", "joined": "one other",
    "joined_often": "spread n", "greater": "one other", "lesser": "one other", "kth": "spreads k", "mixed": "rows",
    "held": "spread low high low_in high_in", "rounded": "spread width",
    "number_error": "value", "order_of": "one other", "near": "number width", "roots_of": "polynomial low high",
    "quantile": "spread q",
    "sign_paper": "polynomial low high", "sign_holds": "polynomial low high value",
    "later_at": "one other", "never_later_paper": "one other", "never_later_holds": "one other value",
    "worse_at": "one other", "never_worse_paper": "one other", "never_worse_holds": "one other value",
    "close_paper": "one other gap", "close_holds": "one other gap value",
    "program_error": "draws value", "saying_error": "names value", "form_at": "form numbers t",
    "run": "program numbers t", "holds": "saying values",
    "point_in": "draws body", "no_point_holds": "draws body value",
    "cells": "draws program name", "cells_error": "draws program name value", "saying_cells": "draws program saying",
    "world_error": "value", "is_numbers": "world value",
    "body_integral": "draws body powers",
    "chance": "world program saying", "chance_given": "world program saying seen",
    "mean_of": "world program name seen", "mean_product": "world program one other seen",
    "spread_of": "world program name seen", "by_parts": "world program name",
    "unlike_at": "world program one other", "above_at": "world program one other",
    "surely_alike": "world program one other", "alike_in_spread": "world program one other",
    "chance_line": "world program saying seen", "sooner": "world program one other",
    "are_apart": "world program saying further seen", "tie_at": "world program name saying seen",
    "look": "world program name cuts seen", "helped": "world program name looked cuts seen",
    "sheet_text": "sheet", "read_sheet": "value",
}


def shown(args):
    """What can be seen of arguments, some of which may be sheets."""
    found = []
    for arg in args:
        if isinstance(arg, Sheet):
            found.append((type(arg).__name__, [arg.at(k) for k in range(arg.version + 1)], arg.made))
        else:
            found.append(repr(arg))
    return found


class Case(unittest.TestCase):
    """A test case that makes each call by place, by name, and again."""

    maxDiff = None

    def told(self, work, *args):
        """What a call returns; however it is made, it returns this, and changes nothing."""
        ahead = copy.deepcopy(args)
        result = work(*args)
        self.all_alike(work, args, ("returned", repr(result)))
        self.assertEqual(shown(args), shown(ahead))
        return result

    def gives(self, work, args, expected):
        """A call returns just what is expected, in kind, too."""
        with self.subTest(call=(work.__name__, repr(args)[:300])):
            self.assertEqual(repr(self.told(work, *args)), repr(expected))

    def fails(self, work, args, error):
        """A call raises an error that is told as the document does."""
        with self.subTest(call=(work.__name__, repr(args)[:300])):
            ahead = copy.deepcopy(args)
            self.all_alike(work, args, ("raised",) + told_error(error))
            self.assertEqual(shown(args), shown(ahead))

    def all_alike(self, work, args, expected):
        """A call by place, one by name, one by name the other way round, and one by place again all do the same."""
        names = PARAMETERS[work.__name__].split()
        self.assertEqual(len(names), len(args))
        named = list(zip(names, args))
        self.assertEqual(outcome(work, *args), expected)
        self.assertEqual(outcome(work, **dict(named)), expected)
        self.assertEqual(outcome(work, **dict(named[::-1])), expected)
        self.assertEqual(outcome(work, *copy.deepcopy(args)), expected)


def nested(deep):
    """A tuple in a tuple, and so on."""
    value = ()
    for _ in range(deep):
        value = (value,)
    return value


# Values of all kinds, none of which is a fraction, a polynomial other than (), a curve other than (), or a spread.
ODD_VALUES = [
    None, True, False, 0, 1, -1, 10 ** 39, -10 ** 39, "", "0", "1/2", "(0, 1)", "a\nb", "~" * 3000, "1" * 3000,
    [], [0, 1], [(0, 1)], [[], []], [(), ()], {}, {"a": 1}, {(0, 1): (1, 2)}, {0: 0, 1: 1},
    (0,), (1,), (None,), (None, None), (0, 1, 1), (1, 2, 3, 4), ((0, 1),) * 2 + (0,), ("0", "1"), ("", 1),
    (0, 0), (1, 0), (0, 2), (2, 4), (-2, 4), (6, 3), (1, -2), (-1, -2), (0, -1), (True, 1), (1, True), (False, True),
    (False, 1), (None, 1), (1, None), ([], 1), ({}, 1), (1, (1,)), ((0, 1), 1), (1, (0, 1)), ([0], [1]), [1, 2],
    (10 ** 39, 10 ** 38), (3 * 10 ** 38, 9), nested(1), nested(2), nested(40), ({},), ([],), ("a", "b", "c"),
]
