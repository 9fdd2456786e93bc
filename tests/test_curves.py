"""Curves: [A10] to [A14]."""

import unittest
from fractions import Fraction

from tests.oracle import (Draw, curve_knots, curve_value, is_curve, is_pair, pair, poly, poly_integral, poly_plus,
                          poly_power, poly_times, poly_value, spots, value)
from tests.support import ODD_VALUES, Case, run_examples
from unsureworks.curves import (below_at, curve_error, curve_scaled, curve_shifted, curve_stretched, curves_added,
                                curves_multiplied, cut_curve, from_to, sides, whole)

EXAMPLES = """
>>> from unsureworks.numbers import fraction_text, is_fraction, less, order, over, plus, read_fraction, times
>>> from unsureworks.curves import below_at, curve_error, curve_scaled, curve_shifted, curve_stretched, curves_added
>>> from unsureworks.curves import curves_multiplied, cut_curve, from_to, sides, whole
>>> one = ((1, 1),)
>>> flat = (((0, 1), (1, 1), one),)
>>> tent = (((0, 1), (1, 1), ((0, 1), (1, 1))), ((1, 1), (2, 1), ((2, 1), (-1, 1))))
>>> curve_error(flat), curve_error(tent), curve_error(()), curve_error(None), curve_error((((0, 1), (1, 1), ()),))
(None, None, None, 'form', ('piece', 0))
>>> curve_error((((0, 1), (1, 1), one), ((1, 2), (2, 1), one))), curve_error((((0, 1), (1, 1), one), ((1, 1), (2, 1), one)))
(('order', 1), ('alike', 1))
>>> sides(tent, (1, 1)), sides(flat, (1, 1)), sides(tent, (1, 2)), curves_added(flat, curve_shifted(flat, (1, 1)))
(((1, 1), (1, 1)), ((1, 1), (0, 1)), ((1, 2), (1, 2)), (((0, 1), (2, 1), ((1, 1),)),))
>>> curves_added(flat, curve_shifted(flat, (1, 2)))
(((0, 1), (1, 2), ((1, 1),)), ((1, 2), (1, 1), ((2, 1),)), ((1, 1), (3, 2), ((1, 1),)))
>>> curves_multiplied(tent, flat), curves_added(flat, curve_scaled(flat, (-1, 1)))
((((0, 1), (1, 1), ((0, 1), (1, 1))),), ())
>>> curve_shifted(tent, (1, 1))[0], curve_stretched(curves_multiplied(tent, flat), (-2, 1))
(((1, 1), (2, 1), ((-1, 1), (1, 1))), (((-2, 1), (0, 1), ((0, 1), (-1, 2))),))
>>> cut_curve(tent, (1, 2), (3, 2)), cut_curve(tent, (1, 1), (1, 1))
((((1, 2), (1, 1), ((0, 1), (1, 1))), ((1, 1), (3, 2), ((2, 1), (-1, 1)))), ())
>>> whole(tent), from_to(tent, (0, 1), (1, 2)), from_to(tent, (-5, 1), (1, 1)), from_to(tent, (1, 1), (1, 1)), whole(())
((1, 1), (1, 8), (1, 2), (0, 1), (0, 1))
>>> below_at(tent), below_at((((0, 1), (2, 1), ((1, 1), (-2, 1), (1, 1))),)) is None
(None, True)
>>> order(below_at((((0, 1), (2, 1), ((-1, 1), (1, 1))),)), (1, 1))
-1
"""


def piece(low, high, *numbers):
    """A piece with these factors."""
    return pair(low), pair(high), poly(*numbers)


def part(low, high, p):
    """A piece with this polynomial."""
    return pair(low), pair(high), p


ONE = poly(1)
HALF, THIRD = Fraction(1, 2), Fraction(1, 3)
FLAT = (piece(0, 1, 1),)
TENT = (piece(0, 1, 0, 1), piece(1, 2, 2, -1))
GAPS = (piece(-2, -1, 1), piece(0, 1, 1), piece(1, 3, 2), piece(Fraction(7, 2), 4, 0, 0, -1))
CURVES = [(), FLAT, TENT, GAPS, (piece(0, 1, -1),), (piece(1, 2, 1),), (piece(0, 2, 1),), (piece(0, 1, 1), piece(1, 2, 2)),
          (piece(-1, 0, 0, 1), piece(0, 1, 0, 1, 1)), (piece(HALF, Fraction(3, 2), 1),)]


class TestCurveError(Case):

    def test_examples(self):
        run_examples(self, EXAMPLES)

    def test_curves(self):
        draw = Draw(10)
        for curve in CURVES + [draw.curve() for _ in range(100)]:
            self.assertTrue(is_curve(curve))
            self.gives(curve_error, (curve,), None)
        self.gives(curve_error, (tuple(piece(k, k + 1, k + 1) for k in range(49)),), None)
        self.gives(curve_error, (tuple(piece(3 * k, 3 * k + 1, 1) for k in range(25)),), None)

    def test_no_tuple(self):
        for odd in ODD_VALUES:
            if not isinstance(odd, tuple):
                self.gives(curve_error, (odd,), "form")
        self.gives(curve_error, (list(FLAT),), "form")
        self.gives(curve_error, ([],), "form")
        self.gives(curve_error, ({0: FLAT[0]},), "form")

    def test_no_piece(self):
        bad = ODD_VALUES + [
            (), ((0, 1),), ((0, 1), (1, 1)), ((0, 1), (1, 1), ONE, ONE), list(FLAT[0]), [(0, 1), (1, 1), ONE],
            ((0, 1), (0, 1), ONE), ((1, 1), (0, 1), ONE), ((1, 2), (1, 3), ONE), ((0, 1), (1, 1), ()),
            ((0, 1), (1, 1), ((0, 1),)), ((0, 1), (1, 1), ((1, 1), (0, 1))), ((0, 1), (1, 1), ((0, 1), (0, 1))),
            ((0, 1), (1, 1), [(1, 1)]), ((0, 1), (1, 1), (1, 1)), ((0, 1), (1, 1), (1,)), ((0, 1), (1, 1), 1),
            ((0, 1), (1, 1), None), ((0, 1), (1, 1), ((2, 2),)), ((0, 1), (1, 1), ((1, 1), None)),
            ((0, 1), (1, 1), ([1, 1],)), ((0, 1), (1, 1), ((True, 1),)), ((0, 1), (1, 1), "1"),
            ((0, 1), (1, 1), {(1, 1): 0}), ((0, 2), (1, 1), ONE), ((0, 1), (2, 2), ONE), ([0, 1], (1, 1), ONE),
            ((0, 1), [1, 1], ONE), (0, 1, ONE), (None, (1, 1), ONE), ((0, 1), None, ONE), ((False, 1), (1, 1), ONE),
            ((0, 1), (True, 1), ONE), ((0, 1), (1, -1), ONE), ((0, True), (1, 1), ONE),
        ]
        for odd in bad:
            self.gives(curve_error, ((odd,),), ("piece", 0))
            self.gives(curve_error, (FLAT + (odd,),), ("piece", 1))
            self.gives(curve_error, ((odd, odd) + FLAT,), ("piece", 0))
            self.gives(curve_error, (GAPS + (odd,) + FLAT,), ("piece", 4))

    def test_order(self):
        self.gives(curve_error, ((piece(0, 1, 1), piece(0, 1, 1)),), ("order", 1))
        self.gives(curve_error, ((piece(1, 2, 1), piece(0, 1, 2)),), ("order", 1))
        self.gives(curve_error, ((piece(1, 2, 1), piece(0, 3, 2)),), ("order", 1))
        self.gives(curve_error, ((piece(0, THIRD, 1), piece(Fraction(33, 100), 1, 2)),), ("order", 1))
        self.gives(curve_error, ((piece(0, THIRD, 1), piece(Fraction(34, 100), 1, 1)),), None)
        self.gives(curve_error, ((piece(0, 1, 1), piece(2, 3, 1), piece(4, 5, 1), piece(1, 2, 2)),), ("order", 3))
        self.gives(curve_error, ((piece(0, 3, 1), piece(1, 2, 2), piece(0, 1, 1)),), ("order", 1))

    def test_alike(self):
        self.gives(curve_error, ((piece(0, 1, 1), piece(1, 2, 2), piece(2, 3, 2)),), ("alike", 2))
        self.gives(curve_error, ((piece(0, 1, 1, 2), piece(1, 2, 1, 2), piece(2, 3, 1, 2)),), ("alike", 1))
        self.gives(curve_error, ((piece(0, 1, 1, 2), piece(1, 2, 1), piece(2, 3, 1, 2)),), None)
        self.gives(curve_error, ((piece(0, 1, 5), piece(Fraction(11, 10), 2, 5)),), None)

    def test_the_first_of_two_errors(self):
        bad = piece(0, 1)
        self.gives(curve_error, ((piece(0, 1, 1), piece(0, 1, 1), bad),), ("piece", 2))
        self.gives(curve_error, ((piece(0, 1, 1), piece(1, 2, 1), bad),), ("piece", 2))
        self.gives(curve_error, ((piece(0, 1, 1), piece(1, 2, 1), piece(1, 2, 2)),), ("order", 2))
        self.gives(curve_error, ((piece(2, 3, 1), piece(1, 2, 1), piece(2, 3, 1)),), ("order", 1))
        self.gives(curve_error, ((bad, bad),), ("piece", 0))
        self.gives(curve_error, ([bad],), "form")

    def test_changed_curves(self):
        draw = Draw(11)
        for _ in range(300):
            items = [list(item) for item in draw.curve() + draw.curve()]
            if not items:
                continue
            item = draw.lot.choice(items)
            item[draw.lot.randrange(3)] = draw.lot.choice([None, (0, 1), (1, 1), (2, 1), (), ONE, (2, 4), 1])
            curve = tuple(tuple(item) for item in items)
            self.gives(curve_error, (curve,), self.expected_error(curve))

    def expected_error(self, curve):
        for place, item in enumerate(curve):
            if not is_curve((item,)):
                return ("piece", place)
        for place in range(1, len(curve)):
            if value(curve[place][0]) < value(curve[place - 1][1]):
                return ("order", place)
        for place in range(1, len(curve)):
            if not is_curve(curve[place - 1:place + 1]):
                return ("alike", place)
        return None


class TestReckoning(Case):

    def setUp(self):
        draw = Draw(12)
        self.drawn = [draw.curve() for _ in range(40)]
        self.lot = draw

    def check(self, curve, knots, expected, many=5):
        """A curve has the expected values between all knots, in the one way in which it can be told."""
        self.assertTrue(is_curve(curve), curve)
        for x in spots(knots, many):
            self.assertEqual(curve_value(curve, x), expected(x))

    def test_sides(self):
        for curve in CURVES + self.drawn:
            tiny = Fraction(1, 10 ** 6)
            for x in spots(curve_knots(curve), 3):
                self.gives(sides, (curve, pair(x)), (pair(curve_value(curve, x)),) * 2)
            for x in curve_knots(curve):
                left = [p for low, high, p in curve if value(low) < x - tiny < value(high)]
                right = [p for low, high, p in curve if value(low) < x + tiny < value(high)]
                worths = tuple(pair(poly_value(found[0], x)) if found else (0, 1) for found in (left, right))
                self.gives(sides, (curve, pair(x)), worths)

    def test_sides_at_knots(self):
        self.gives(sides, (FLAT, (0, 1)), ((0, 1), (1, 1)))
        self.gives(sides, (FLAT, (1, 1)), ((1, 1), (0, 1)))
        self.gives(sides, ((piece(0, 1, 3), piece(1, 2, 5)), (1, 1)), ((3, 1), (5, 1)))
        self.gives(sides, (GAPS, (3, 1)), ((2, 1), (0, 1)))
        self.gives(sides, (GAPS, (-5, 1)), ((0, 1), (0, 1)))
        self.gives(sides, ((), (0, 1)), ((0, 1), (0, 1)))

    def test_added_and_multiplied(self):
        curves = CURVES + self.drawn[:20]
        for one in curves:
            for other in curves:
                knots = curve_knots(one, other)
                self.check(self.told(curves_added, one, other), knots,
                           lambda x: curve_value(one, x) + curve_value(other, x))
                self.check(self.told(curves_multiplied, one, other), knots,
                           lambda x: curve_value(one, x) * curve_value(other, x))

    def test_sums_whose_pieces_vanish_or_become_one(self):
        for curve in CURVES + self.drawn:
            self.gives(curves_added, (curve, curve_scaled(curve, (-1, 1))), ())
            self.gives(curves_added, (curve, ()), curve)
            self.gives(curves_added, ((), curve), curve)
            self.gives(curves_multiplied, (curve, ()), ())
            self.gives(curves_multiplied, ((), curve), ())
            wide = (piece(-100, 100, 1),)
            self.gives(curves_multiplied, (curve, wide), curve)
            self.gives(curves_multiplied, (wide, curve), curve)
        self.gives(curves_added, ((piece(0, 1, 1), piece(1, 2, 2)), (piece(0, 1, 1),)), (piece(0, 2, 2),))
        self.gives(curves_added, ((piece(0, 1, 1),), (piece(1, 2, 1),)), (piece(0, 2, 1),))
        self.gives(curves_added, ((piece(0, 1, 1), piece(2, 3, 1)), (piece(1, 2, 1),)), (piece(0, 3, 1),))
        self.gives(curves_added, ((piece(0, 3, 1),), (piece(1, 2, -1),)), (piece(0, 1, 1), piece(2, 3, 1)))
        self.gives(curves_added, ((piece(0, 2, 0, 1),), (piece(1, 3, 0, -1),)), (piece(0, 1, 0, 1), piece(2, 3, 0, -1)))
        self.gives(curves_multiplied, ((piece(0, 1, 1), piece(1, 2, 2)), (piece(0, 1, 2), piece(1, 2, 1))), (piece(0, 2, 2),))
        self.gives(curves_multiplied, ((piece(0, 1, 1),), (piece(1, 2, 1),)), ())
        self.gives(curves_multiplied, ((piece(0, 1, -1), piece(1, 2, 1)),) * 2, (piece(0, 2, 1),))

    def test_scaled(self):
        for curve in CURVES + self.drawn:
            self.gives(curve_scaled, (curve, (0, 1)), ())
            self.gives(curve_scaled, (curve, (1, 1)), curve)
            for f in ((-1, 1), (2, 3), (-7, 2)):
                self.check(self.told(curve_scaled, curve, f), curve_knots(curve), lambda x: value(f) * curve_value(curve, x))

    def test_shifted(self):
        for curve in CURVES + self.drawn:
            self.gives(curve_shifted, (curve, (0, 1)), curve)
            for f in ((1, 1), (-1, 2), (5, 3)):
                knots = [x + value(f) for x in curve_knots(curve)]
                moved = self.told(curve_shifted, curve, f)
                self.check(moved, knots, lambda x: curve_value(curve, x - value(f)))
                self.assertEqual(curve_knots(moved), knots)

    def test_stretched(self):
        for curve in CURVES + self.drawn:
            self.gives(curve_stretched, (curve, (1, 1)), curve)
            self.fails(curve_stretched, (curve, (0, 1)), "Unfit()")
            for f in ((2, 1), (-1, 1), (-1, 2), (2, 3), (-5, 3)):
                knots = sorted(x * value(f) for x in curve_knots(curve))
                wide = self.told(curve_stretched, curve, f)
                self.check(wide, knots, lambda x: curve_value(curve, x / value(f)))
                self.assertEqual(curve_knots(wide), knots)

    def test_cut(self):
        for curve in CURVES + self.drawn:
            knots = curve_knots(curve)
            ends = sorted(set(knots[:4] + [Fraction(-9), Fraction(1, 5), Fraction(1), Fraction(9)]))
            for low in ends:
                for high in ends:
                    cut = self.told(cut_curve, curve, pair(low), pair(high))
                    if low >= high:
                        self.assertEqual(cut, ())
                    self.check(cut, sorted(set(knots + [low, high])),
                               lambda x: curve_value(curve, x) if low < x < high else 0)

    def test_cut_at_knots(self):
        self.gives(cut_curve, (TENT, (0, 1), (2, 1)), TENT)
        self.gives(cut_curve, (TENT, (0, 1), (1, 1)), TENT[:1])
        self.gives(cut_curve, (TENT, (1, 1), (2, 1)), TENT[1:])
        self.gives(cut_curve, (TENT, (2, 1), (5, 1)), ())
        self.gives(cut_curve, (TENT, (-2, 1), (0, 1)), ())
        self.gives(cut_curve, (TENT, (2, 1), (0, 1)), ())
        self.gives(cut_curve, (TENT, (0, 1), (0, 1)), ())
        self.gives(cut_curve, (TENT, (3, 2), (1, 2)), ())

    def integral(self, curve, low, high):
        total = Fraction(0)
        for begin, end, p in curve:
            begin, end = max(value(begin), low), min(value(end), high)
            if begin < end:
                total += poly_integral(p, begin, end)
        return pair(total)

    def test_integrals(self):
        for curve in CURVES + self.drawn:
            self.gives(whole, (curve,), self.integral(curve, Fraction(-99), Fraction(99)))
            ends = sorted(set(curve_knots(curve)[:3] + [Fraction(-9), Fraction(1, 5), Fraction(9)]))
            for low in ends:
                for high in ends:
                    if low > high:
                        self.fails(from_to, (curve, pair(low), pair(high)), "Unfit()")
                    else:
                        self.gives(from_to, (curve, pair(low), pair(high)), self.integral(curve, low, high))

    def test_integral_of_nothing(self):
        for curve in CURVES:
            for f in ((0, 1), (1, 1), (1, 2), (-9, 1)):
                self.gives(from_to, (curve, f, f), (0, 1))
        self.gives(whole, ((piece(-1, 1, 0, 1),),), (0, 1))
        self.fails(from_to, ((), (1, 1), (0, 1)), "Unfit()")
        self.fails(from_to, (FLAT, (1, 3), (1, 4)), "Unfit()")

    def test_many_pieces(self):
        one = tuple(piece(k, k + 1, k % 3 + 1) for k in range(49))
        other = tuple(piece(Fraction(2 * k + 1, 2), Fraction(2 * k + 3, 2), 1, k % 2 + 1) for k in range(24))
        for x, work in ((lambda a, b: a + b, curves_added), (lambda a, b: a * b, curves_multiplied)):
            self.check(self.told(work, one, other), curve_knots(one, other),
                       lambda t: x(curve_value(one, t), curve_value(other, t)), 3)

    def test_great_numbers(self):
        great = 10 ** 40 - 1
        one = (part(Fraction(-great), Fraction(1, great), poly(Fraction(great, great - 1), Fraction(-1, great))),)
        other = (part(Fraction(1, great), Fraction(1, great - 1), poly(*[Fraction(k + 1, great - k) for k in range(13)])),)
        total = self.told(curves_added, one, other)
        self.assertEqual(total, one + other)
        self.gives(whole, (total,), self.integral(total, Fraction(-great), Fraction(1)))
        self.gives(curves_multiplied, (one, other), ())


class TestBelow(Case):

    def check_below(self, curve, is_below):
        """below_at tells a place that is right, or none if there is none."""
        self.assertTrue(is_curve(curve))
        self.assertLess(max([len(p) for _, _, p in curve], default=0), 14)
        place = self.told(below_at, curve)
        if not is_below:
            self.assertIsNone(place, curve)
            return
        self.assertTrue(is_pair(place), curve)
        self.assertNotIn(value(place), curve_knots(curve))
        self.assertLess(curve_value(curve, value(place)), 0)

    def test_nowhere_below(self):
        for curve in [(), FLAT, TENT, (piece(0, 2, 1, -2, 1),), (piece(-1, 1, 0, 0, 1),), (piece(0, 1, 0, 1),),
                      (piece(-1, 0, 0, -1),), (piece(0, 1, 0, 1, -1),), (piece(0, 1, 0, 0, 1, -1),),
                      (piece(-5, 5, 1),), (piece(-1, 1, 1, 0, -1),), (piece(0, 1, 0, 0, 0, 5),)]:
            self.check_below(curve, False)

    def test_below_everywhere(self):
        for p in (poly(-1), poly(Fraction(-1, 10 ** 39)), poly(-1, 0, -1), poly(-2, 0, 0, -1), poly_times(poly(-1), poly_power(poly(-2, 0, 1), 2))):
            for low, high in ((0, 1), (-1, 0), (1, 2), (Fraction(-1, 7), Fraction(1, 9))):
                self.check_below((part(low, high, p),), True)

    def test_only_the_last_piece(self):
        self.check_below((piece(0, 1, 1), piece(1, 2, 2, -1), piece(2, 3, 4, -2)), True)
        self.check_below((piece(0, 1, 1), piece(1, 2, 2, -1), piece(3, 4, -3, 1)), False)
        self.check_below(GAPS, True)
        self.check_below(GAPS[:3], False)

    def test_touching_at_places_that_are_no_fractions(self):
        two, three = poly(-2, 0, 1), poly(-3, 0, 1)
        cubic = poly(-2, 0, 0, 1)
        for p in (two, cubic, poly_times(two, three), poly_times(two, poly(-1, 2)), poly(-1, -1, 0, 0, 0, 1)):
            for often in (2, 4):
                square = poly_power(p, often)
                if len(square) > 10:
                    continue
                self.check_below((part(-3, 3, square),), False)
                self.check_below((part(0, 2, square),), False)
                self.check_below((part(0, 2, poly_times(square, poly(0, 1))),), False)
                self.check_below((part(0, 2, poly_times(square, poly(2, -1))),), False)
                self.check_below((part(1, 2, poly_times(square, poly(-1, 3, -2))),), True)
                self.check_below((part(-3, 3, poly_times(square, poly(-1))),), True)
                self.check_below((part(1, 3, poly_times(square, poly(3, -1, 0, 1))),), False)
        for p, often in ((two, 6), (cubic, 4), (poly(-1, -1, 0, 0, 0, 1), 2), (poly_times(two, three), 3)):
            self.check_below((part(-3, 3, poly_power(p, often)),), often == 3)
            self.check_below((part(-3, 3, poly_times(poly_power(p, often), poly(-1))),), True)

    def test_changing_signs_at_places_that_are_no_fractions(self):
        two = poly(-2, 0, 1)
        self.check_below((part(0, 2, two),), True)
        self.check_below((part(Fraction(141421356237309504880, 10 ** 20), 2, two),), True)
        self.check_below((part(Fraction(141421356237309504881, 10 ** 20), 2, two),), False)
        self.check_below((part(-1, Fraction(141421356237309504880, 10 ** 20), poly(2, 0, -1)),), False)
        self.check_below((part(-1, Fraction(141421356237309504881, 10 ** 20), poly(2, 0, -1)),), True)
        for often in (1, 3, 5):
            self.check_below((part(1, 3, poly_power(two, often)),), True)
            self.check_below((part(Fraction(3, 2), 3, poly_power(two, often)),), False)
            self.check_below((part(1, 3, poly_times(poly_power(two, often), poly_power(poly(-2, 1), 2))),), True)

    def test_narrow_stretches(self):
        for x, tiny in ((THIRD, Fraction(1, 10 ** 38)), (HALF, Fraction(1, 10 ** 38)), (HALF, Fraction(1, 10 ** 6)),
                        (Fraction(1, 1024), Fraction(1, 10 ** 30)), (Fraction(10 ** 9 + 7, 10 ** 10 - 9), Fraction(1, 10 ** 18))):
            square = poly_power(poly(-x, 1), 2)
            self.check_below((part(0, 1, poly_plus(square, poly(-tiny))),), True)
            self.check_below((part(0, 1, square),), False)
            self.check_below((part(0, 1, poly_plus(square, poly(tiny))),), False)
            narrow = poly_times(poly(-x, 1), poly(-x - tiny, 1))
            self.check_below((part(0, 1, narrow),), True)
            self.check_below((part(x + tiny, 2, narrow),), False)
            self.check_below((part(-1, x, narrow),), False)
            self.check_below((part(0, 1, poly_times(narrow, poly(-x, 1))),), True)
        narrow = poly_times(poly(-THIRD, 1), poly(-THIRD - Fraction(1, 10 ** 18), 1))
        self.check_below((part(0, 1, poly_times(narrow, narrow)),), False)
        # Between 0 and 1 this is below 0 only within 10 ** -130 or so of a place 10 ** -19 above 0.
        great = 10 ** 19
        narrow = poly(2, -4 * great, 2 * great ** 2, *[0] * 9, -1)
        self.check_below((part(0, 1, narrow),), True)

    def test_narrow_around_a_root(self):
        square = poly_power(poly(-2, 0, 1), 2)
        for tiny in (Fraction(1, 10 ** 9), Fraction(1, 10 ** 39)):
            self.check_below((part(0, 2, poly_plus(square, poly(-tiny))),), True)
            self.check_below((part(0, 2, poly_plus(square, poly(tiny))),), False)
        # The places at which both factors are 0 lie 10 ** -20 off each other, or so.
        near = poly_times(poly(-2, 0, 1), poly(-2 - Fraction(1, 10 ** 20), 0, 1))
        self.check_below((part(1, 2, near),), True)
        self.check_below((part(1, 2, poly_times(near, near)),), False)

    def test_close_to_an_end(self):
        for tiny in (Fraction(1, 100), Fraction(1, 10 ** 20), Fraction(1, 10 ** 38)):
            self.check_below((part(0, 1, poly(-tiny, 1)),), True)
            self.check_below((part(0, 1, poly(1 - tiny, -1)),), True)
            self.check_below((part(tiny, 1, poly(-tiny, 1)),), False)
            self.check_below((part(0, 1, poly(0, -tiny, 1)),), True)
            self.check_below((part(0, 1, poly(0, 0, 0, -tiny, 1)),), True)
            self.check_below((part(tiny, 1, poly(0, 0, 0, -tiny, 1)),), False)
            self.check_below((part(-1, 0, poly(0, tiny, 1)),), True)
            self.check_below((part(-1, 0, poly(0, 0, tiny, 1)),), True)
            self.check_below((part(0, 1, poly_times(poly(-tiny, 1), poly_power(poly(-tiny / 2, 1), 2))),), True)

    def test_nought_at_the_ends(self):
        self.check_below((part(0, 1, poly(0, -1)),), True)
        self.check_below((part(0, 1, poly(0, -1, 1)),), True)
        self.check_below((part(0, 1, poly(0, 0, -1, 1)),), True)
        self.check_below((part(0, 1, poly(-1, 1)),), True)
        self.check_below((part(0, 1, poly(-1, 3, -3, 1)),), True)
        self.check_below((part(0, 1, poly(1, -3, 3, -1)),), False)
        self.check_below((part(0, 1, poly(1, -4, 6, -4, 1)),), False)
        self.check_below((part(-1, 1, poly(0, 0, 0, 1)),), True)

    def test_drawn_products(self):
        """Products of factors whose signs are known."""
        draw = Draw(13)
        for _ in range(150):
            low = draw.small()
            high = low + abs(draw.small()) + 1
            places = [low + (high - low) * Fraction(draw.lot.randint(-4, 12), 8) for _ in range(4)]
            p = poly(draw.lot.choice([1, 1, Fraction(1, 9)]))
            odd = []
            for x in places:
                often = draw.lot.choice([0, 1, 2, 2, 3])
                p = poly_times(p, poly_power(poly(-x, 1), often))
                odd += [x] * (often % 2)
            changes = sorted({x for x in odd if low < x < high and odd.count(x) % 2})
            above = len([x for x in odd if x >= high]) % 2 == 0
            self.check_below((part(low, high, p),), bool(changes) or not above)

    def test_sums_of_squares(self):
        draw = Draw(14)
        for _ in range(60):
            squares = [poly_power(draw.small_poly(4), 2) for _ in range(3)]
            p = poly_plus(poly_plus(squares[0], squares[1]), poly_times(squares[2], poly(0, 1)))
            if p != ():
                self.check_below((part(0, 7, p),), False)
                self.check_below((part(0, 7, poly_times(p, poly(-1))),), True)

    def test_great_numbers(self):
        great = 10 ** 40 - 1
        p = poly(*[Fraction(great - k, great - 3 * k - 2) for k in range(13)])
        self.check_below((part(0, great, p),), False)
        self.check_below((part(0, great, poly_times(p, poly(-1))),), True)
        self.check_below((part(Fraction(-1, great), Fraction(1, great), p),), False)


if __name__ == "__main__":
    unittest.main()
