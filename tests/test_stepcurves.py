"""Step curves: [A15] to [A17]."""

import unittest
from fractions import Fraction

from tests.oracle import (Draw, curve_knots, is_step, pair, poly, poly_integral, poly_value, spots,
                          step_knots, step_value, value)
from tests.support import ODD_VALUES, Case, run_examples
from unsureworks.stepcurves import (ahead_at, behind_at, heap_step, step_at, step_error, step_scaled, steps_added,
                                    steps_multiplied)

EXAMPLES = """
>>> from unsureworks.curves import curve_scaled
>>> one = ((1, 1),)
>>> p = ((1, 1), (2, 1))
>>> flat = (((0, 1), (1, 1), one),)
>>> from unsureworks.stepcurves import ahead_at, behind_at, heap_step, step_at, step_error, step_scaled, steps_added
>>> from unsureworks.stepcurves import steps_multiplied
>>> rising = heap_step(flat, ())
>>> rising, heap_step((), (((1, 1), (1, 1)),)), heap_step((), ())
(((0, 1), (((0, 1), (0, 1), ((0, 1), (1, 1))), ((1, 1), (1, 1), ((1, 1),)))), ((0, 1), (((1, 1), (1, 1), ((1, 1),)),)), ((0, 1), ()))
>>> both = heap_step(curve_scaled(flat, (1, 2)), (((0, 1), (1, 4)), ((1, 2), (1, 4))))
>>> both[1]
(((0, 1), (1, 4), ((1, 4), (1, 2))), ((1, 2), (3, 4), ((1, 2), (1, 2))), ((1, 1), (1, 1), ((1, 1),)))
>>> step_at(both, (1, 2)), ahead_at(both, (1, 2)), behind_at(both, (1, 2)), step_at(both, (-1, 1)), behind_at(both, (9, 1))
((3, 4), (1, 2), (3, 4), (0, 1), (1, 1))
>>> steps_added(both, step_scaled(both, (-1, 1))), steps_multiplied(rising, rising)[1][0]
(((0, 1), ()), ((0, 1), (0, 1), ((0, 1), (0, 1), (1, 1))))
>>> step_error(((0, 1), (((0, 1), (1, 1), ()),))), step_error(((0, 1), (((0, 1), (0, 1), ()),))), step_error(((1, 1), (((0, 1), (1, 1), p),)))
(None, ('alike', 0), 'last')
"""


def item(knot, worth, *numbers):
    """An item with these factors."""
    return pair(knot), pair(worth), poly(*numbers)


def step(left, *items):
    """A step curve."""
    return pair(left), tuple(items)


HALF = Fraction(1, 2)
NOUGHT = step(0)
THREE = step(3)
POINT = step(0, item(0, 1))
JUMP = step(0, item(0, 0, 1))
LATE = step(0, item(0, 1, 1))
RISE = step(0, item(0, 0, 0, 1), item(1, 1, 1))
HOLE = step(2, item(-1, 5, 2), item(0, 2, 0, 1), item(1, 7, 0, 1), item(HALF * 5, 0, -1))
STEPS = [NOUGHT, THREE, POINT, JUMP, LATE, RISE, HOLE, step(1, item(1, 0)), step(Fraction(-1, 2), item(0, 0, Fraction(1, 2)))]


class TestStepError(Case):

    def test_examples(self):
        run_examples(self, EXAMPLES)

    def test_step_curves(self):
        draw = Draw(20)
        for one in STEPS + [draw.step() for _ in range(200)]:
            self.assertTrue(is_step(one), one)
            self.gives(step_error, (one,), None)

    def test_form(self):
        items = RISE[1]
        for odd in ODD_VALUES + [(), ((0, 1),), ((0, 1), items, ()), [(0, 1), items], ((0, 2), items), (0, items),
                                 ([0, 1], items), ((0, 1), list(items)), ((0, 1), None), (None, items),
                                 ((True, 1), items), ((0, 1), "()"), ((0, 1), {}), (items, (0, 1)), ((), ()),
                                 ((2, 4), ()), ((0, -1), ()), ((0, 1), []), ((0, 1), 0)]:
            self.gives(step_error, (odd,), "form")

    def test_item(self):
        bad = [odd for odd in ODD_VALUES] + [
            (), ((0, 1), (1, 1)), ((0, 1), (1, 1), (), ()), [(0, 1), (1, 1), ()], ([0, 1], (1, 1), ()),
            ((0, 1), [1, 1], ()), ((0, 1), (1, 1), []), ((0, 1), (1, 1), ((0, 1),)), ((0, 1), (1, 1), ((1, 1), (0, 1))),
            ((0, 2), (1, 1), ()), ((0, 1), (2, 2), ()), ((0, 1), (1, 1), ((2, 2),)), ((0, 1), (1, 1), None),
            (0, (1, 1), ()), ((0, 1), 1, ()), ((0, 1), (1, 1), 1), ((0, 1), (1, 1), (1, 1)), ((0, 1), None, ()),
            (None, (1, 1), ()), ((False, 1), (1, 1), ()), ((0, 1), (True, 1), ()), ((0, 1), (1, 1), ((True, 1),)),
        ]
        for odd in bad:
            self.gives(step_error, (((0, 1), (odd,)),), ("item", 0))
            self.gives(step_error, (((0, 1), RISE[1] + (odd,)),), ("item", 2))
            self.gives(step_error, (((0, 1), (odd, odd) + RISE[1]),), ("item", 0))

    def test_order(self):
        self.gives(step_error, (step(0, item(0, 1, 1), item(0, 2, 2)),), ("order", 1))
        self.gives(step_error, (step(0, item(1, 1, 1), item(0, 2, 2)),), ("order", 1))
        self.gives(step_error, (step(0, item(0, 1, 1), item(1, 1, 2), item(HALF, 3, 3)),), ("order", 2))
        self.gives(step_error, (step(0, item(Fraction(1, 3), 1, 1), item(Fraction(33, 100), 1, 2)),), ("order", 1))
        self.gives(step_error, (step(0, item(Fraction(1, 3), 1, 1), item(Fraction(34, 100), 1, 2)),), None)

    def test_last(self):
        self.gives(step_error, (step(0, item(0, 0, 0, 1)),), "last")
        self.gives(step_error, (step(0, item(0, 0, 1), item(1, 0, 1, 0, 1)),), "last")
        self.gives(step_error, (step(0, item(0, 0, 0, 1), item(1, 0, 1)),), None)
        self.gives(step_error, (step(0, item(0, 0, 0, 1), item(1, 0)),), None)

    def test_alike(self):
        self.gives(step_error, (step(0, item(0, 0)),), ("alike", 0))
        self.gives(step_error, (step(2, item(0, 2, 2)),), ("alike", 0))
        self.gives(step_error, (step(2, item(0, 1, 2)),), None)
        self.gives(step_error, (step(2, item(0, 2)),), None)
        self.gives(step_error, (step(0, item(0, 1, 1), item(5, 1, 1)),), ("alike", 1))
        self.gives(step_error, (step(0, item(0, 0, 0, 1), item(1, 1, 0, 1), item(2, 2, 0)),), ("alike", 1))
        self.gives(step_error, (step(0, item(0, 0, 0, 1), item(1, 2, 0, 1), item(2, 2, 0)),), None)
        self.gives(step_error, (step(0, item(0, 0, 0, 1), item(1, 1, 1), item(2, 1, 1)),), ("alike", 2))
        self.gives(step_error, (step(0, item(-1, 1), item(0, 0), item(1, 0)),), ("alike", 1))

    def test_the_first_of_two_errors(self):
        bad = (0, 0, 0)
        self.gives(step_error, (((0, 2), (bad,)),), "form")
        self.gives(step_error, (((0, 1), (item(1, 1, 1), item(0, 1, 1), bad)),), ("item", 2))
        self.gives(step_error, (step(0, item(0, 0), item(0, 0), item(-1, 5, 0, 1)),), ("order", 1))
        self.gives(step_error, (step(0, item(0, 0), item(1, 5, 0, 1)),), "last")
        self.gives(step_error, (step(1, item(0, 2, 0, 1), item(0, 2, 0, 1)),), ("order", 1))
        self.gives(step_error, (step(0, item(0, 0), item(1, 0)),), ("alike", 0))


class TestValues(Case):

    def setUp(self):
        self.drawn = [Draw(21 + k).step() for k in range(40)]

    def test_values(self):
        for one in STEPS + self.drawn:
            for x in spots(step_knots(one), 3):
                worth = pair(step_value(one, x))
                for work in (step_at, ahead_at, behind_at):
                    self.gives(work, (one, pair(x)), worth)

    def test_values_at_knots(self):
        for one in STEPS + self.drawn:
            ahead = poly(value(one[0]))
            for knot, worth, p in one[1]:
                self.gives(step_at, (one, knot), worth)
                self.gives(ahead_at, (one, knot), pair(poly_value(ahead, value(knot))))
                self.gives(behind_at, (one, knot), pair(poly_value(p, value(knot))))
                ahead = p

    def test_three_unlike_values_at_one_knot(self):
        one = step(1, item(2, 5, 0, 4), item(3, 0, 7))
        self.gives(step_at, (one, (2, 1)), (5, 1))
        self.gives(ahead_at, (one, (2, 1)), (1, 1))
        self.gives(behind_at, (one, (2, 1)), (8, 1))
        self.gives(step_at, (one, (3, 1)), (0, 1))
        self.gives(ahead_at, (one, (3, 1)), (12, 1))
        self.gives(behind_at, (one, (3, 1)), (7, 1))

    def test_without_knots(self):
        for work in (step_at, ahead_at, behind_at):
            self.gives(work, (NOUGHT, (5, 1)), (0, 1))
            self.gives(work, (THREE, (-5, 2)), (3, 1))


class TestReckoning(Case):

    def setUp(self):
        draw = Draw(22)
        self.drawn = [draw.step() for _ in range(25)]
        self.draw = draw

    def check(self, found, knots, expected):
        """A step curve has the expected values everywhere, and no item that can be left out."""
        self.assertTrue(is_step(found), found)
        for x in spots(knots, 8) + knots:
            self.assertEqual(step_value(found, x), expected(x))

    def test_added_and_multiplied(self):
        steps = STEPS + self.drawn
        for one in steps:
            for other in steps:
                knots = step_knots(one, other)
                self.check(self.told(steps_added, one, other), knots, lambda x: step_value(one, x) + step_value(other, x))
                self.check(self.told(steps_multiplied, one, other), knots,
                           lambda x: step_value(one, x) * step_value(other, x))

    def test_what_vanishes(self):
        for one in STEPS + self.drawn:
            self.gives(steps_added, (one, step_scaled(one, (-1, 1))), NOUGHT)
            self.gives(steps_added, (one, NOUGHT), one)
            self.gives(steps_added, (NOUGHT, one), one)
            self.gives(steps_multiplied, (one, NOUGHT), NOUGHT)
            self.gives(steps_multiplied, (NOUGHT, one), NOUGHT)
            self.gives(steps_multiplied, (one, step(1)), one)
            self.gives(step_scaled, (one, (0, 1)), NOUGHT)
            self.gives(step_scaled, (one, (1, 1)), one)
        self.gives(steps_multiplied, (POINT, step(1, item(0, 0, 1))), NOUGHT)
        self.gives(steps_multiplied, (JUMP, step(1, item(0, 1))), NOUGHT)
        self.gives(steps_added, (POINT, JUMP), LATE)
        self.gives(steps_added, (JUMP, step(1, item(0, 0, 0))), step(1, item(0, 0, 1)))
        self.gives(steps_added, (LATE, step(1, item(0, 0, 0))), step(1))
        self.gives(steps_added, (RISE, step(0, item(HALF, 3), item(1, 0, -1))), step(0, item(0, 0, 0, 1), item(HALF, HALF + 3, 0, 1), item(1, 1)))

    def test_scaled(self):
        for one in STEPS + self.drawn:
            for f in ((-1, 1), (2, 3), (-7, 2), (0, 1)):
                self.check(self.told(step_scaled, one, f), step_knots(one), lambda x: value(f) * step_value(one, x))

    def heap_at(self, curve, lumps, x):
        total = sum((value(weight) for place, weight in lumps if value(place) <= x), Fraction(0))
        for low, high, p in curve:
            if value(low) < x:
                total += poly_integral(p, value(low), min(value(high), x))
        return total

    def test_heap(self):
        for _ in range(120):
            curve, lumps = self.draw.curve(), self.draw.lumps()
            knots = sorted(set(curve_knots(curve) + [value(place) for place, _ in lumps]))
            found = self.told(heap_step, curve, lumps)
            self.check(found, knots, lambda x: self.heap_at(curve, lumps, x))
            self.assertEqual(step_knots(found), knots)

    def test_heap_of_lumps(self):
        lumps = (((-1, 1), (1, 3)), ((0, 1), (5, 1)), ((7, 2), (1, 6)))
        self.gives(heap_step, ((), lumps), step(0, item(-1, Fraction(1, 3), Fraction(1, 3)), item(0, Fraction(16, 3), Fraction(16, 3)),
                                                item(Fraction(7, 2), Fraction(11, 2), Fraction(11, 2))))
        self.gives(heap_step, ((), ()), NOUGHT)

    def test_heap_of_contrary_pieces(self):
        curve = ((pair(0), pair(1), poly(1)), (pair(2), pair(3), poly(-1)))
        self.gives(heap_step, (curve, ()), step(0, item(0, 0, 0, 1), item(1, 1, 1), item(2, 1, 3, -1), item(3, 0)))
        self.gives(heap_step, (curve, (((1, 1), (1, 2)),)), step(0, item(0, 0, 0, 1), item(1, Fraction(3, 2), Fraction(3, 2)),
                                                                 item(2, Fraction(3, 2), Fraction(7, 2), -1), item(3, HALF, HALF)))

    def test_many_items(self):
        one = step(0, *[item(k, k, k + 1, 1) for k in range(49)], item(49, 0))
        other = step(1, *[item(Fraction(2 * k + 1, 2), 0, k, 0, 1) for k in range(40)], item(60, 0))
        self.check(self.told(steps_multiplied, one, other), step_knots(one, other),
                   lambda x: step_value(one, x) * step_value(other, x))


if __name__ == "__main__":
    unittest.main()
