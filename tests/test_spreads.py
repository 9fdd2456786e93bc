"""Spreads: [B1] to [B5], and [A2] (a)."""

import unittest
from fractions import Fraction

from tests.oracle import (Draw, curve_knots, curve_value, is_curve, is_pair, is_step, pair, poly, poly_integral, poly_plus,
                          poly_power, poly_times, step_value, value)
from tests.support import ODD_VALUES, Case, run_examples
from unsureworks.spreads import chance_of, ends, even, heaped, lump, mean, moment, spread_error, tent

EXAMPLES = """
>>> from unsureworks.spreads import chance_of, ends, even, heaped, lump, mean, moment, spread_error, tent
>>> nought, half, whole_one, two = (0, 1), (1, 2), (1, 1), (2, 1)
>>> some = (((nought, (1, 4)),), ((nought, whole_one, ((3, 4),)),))
>>> spread_error(some), spread_error(((), ())), spread_error((((nought, nought),), ())), spread_error([(), ()])
(None, ('whole', (0, 1)), ('lump', 0), 'form')
>>> spread_error((((whole_one, half), (nought, half)), ())), spread_error(((), ((nought, nought, ((1, 1),)),)))
(('lump', 1), ('curve', ('piece', 0)))
>>> spread_error((((nought, half),), ((nought, whole_one, ((1, 1),)),)))
('whole', (3, 2))
>>> even(nought, two), lump(half)
(((), (((0, 1), (2, 1), ((1, 2),)),)), ((((1, 2), (1, 1)),), ()))
>>> tent(nought, whole_one, two)
((), (((0, 1), (1, 1), ((0, 1), (1, 1))), ((1, 1), (2, 1), ((2, 1), (-1, 1)))))
>>> tent(nought, nought, two), tent(nought, two, two)
(((), (((0, 1), (2, 1), ((1, 1), (-1, 2))),)), ((), (((0, 1), (2, 1), ((0, 1), (1, 2))),)))
>>> tent(nought, (3, 1), two)
raises Unfit()
>>> heaped(some)
((0, 1), (((0, 1), (1, 4), ((1, 4), (3, 4))), ((1, 1), (1, 1), ((1, 1),))))
>>> heaped(tent(nought, whole_one, two))[1][1], heaped(lump(half))
(((1, 1), (1, 2), ((-1, 1), (2, 1), (-1, 2))), ((0, 1), (((1, 2), (1, 1), ((1, 1),)),)))
>>> chance_of(some, nought, half, True, True), chance_of(some, nought, half, False, True), chance_of(some, nought, nought, True, True), chance_of(some, nought, nought, True, False)
((5, 8), (3, 8), (1, 4), (0, 1))
>>> mean(some), moment(some, 2), moment(some, 0), ends(some)
((3, 8), (1, 4), (1, 1), ((0, 1), (1, 1)))
>>> moment(tent(nought, whole_one, two), 2), ends((((two, half), ((3, 1), half)), ()))
((7, 6), ((2, 1), (3, 1)))
>>> chance_of(some, half, nought, True, True)
raises Unfit()
"""


def piece(low, high, *numbers):
    """A piece with these factors."""
    return pair(low), pair(high), poly(*numbers)


def part(low, high, p):
    """A piece with this polynomial."""
    return pair(low), pair(high), p


def weight(place, share):
    """A lump."""
    return pair(place), pair(share)


HALF, THIRD, QUARTER = Fraction(1, 2), Fraction(1, 3), Fraction(1, 4)
GREAT = 10 ** 40 - 1
PLAIN = ((), (piece(0, 1, 1),))
SURE = ((weight(0, 1),), ())
COIN = ((weight(0, HALF), weight(1, HALF)), ())
AT_KNOTS = ((weight(0, QUARTER), weight(1, QUARTER)), (piece(0, 1, HALF),))
INSIDE = ((weight(Fraction(1, 3), HALF),), (piece(0, 1, HALF),))
OUTSIDE = ((weight(-5, QUARTER), weight(7, QUARTER)), (piece(0, 1, HALF),))
BETWEEN = ((weight(Fraction(3, 2), HALF),), (piece(0, 1, QUARTER), piece(2, 3, QUARTER)))
HIGH_LUMP = ((weight(4, HALF),), (piece(-3, -2, HALF),))
LOW_LUMP = ((weight(-4, HALF),), (piece(-3, -2, HALF),))
BENT = ((), (piece(-1, 1, 0, 0, Fraction(3, 2)),))
SPREADS = [PLAIN, SURE, COIN, AT_KNOTS, INSIDE, OUTSIDE, BETWEEN, HIGH_LUMP, LOW_LUMP, BENT,
           ((weight(Fraction(1, GREAT), 1),), ())]


def total_of(spread):
    """All weights and the whole of the curve."""
    total = sum((value(share) for _, share in spread[0]), Fraction(0))
    return total + sum((poly_integral(p, value(low), value(high)) for low, high, p in spread[1]), Fraction(0))


class TestSpreadError(Case):

    def test_examples(self):
        run_examples(self, EXAMPLES)

    def test_spreads(self):
        draw = Draw(30)
        for spread in SPREADS + [draw.spread() for _ in range(100)]:
            self.gives(spread_error, (spread,), None)

    def test_form(self):
        for odd in ODD_VALUES + [(), ((),), ((), (), ()), [(), ()], [SURE[0], ()], (list(SURE[0]), ()), ([], ()),
                                 (None, ()), ({}, ()), ("", ()), (0, ()), SURE + ((),), "()", ({0: 1}, PLAIN[1])]:
            if not (isinstance(odd, tuple) and len(odd) == 2 and isinstance(odd[0], tuple)):
                self.gives(spread_error, (odd,), "form")

    def test_lump(self):
        bad = ODD_VALUES + [
            (), ((0, 1),), ((0, 1), (1, 1), (1, 1)), [(0, 1), (1, 1)], ([0, 1], (1, 1)), ((0, 1), [1, 1]),
            ((0, 2), (1, 1)), ((0, 1), (2, 2)), ((0, 1), (0, 1)), ((0, 1), (-1, 1)), ((0, 1), (-1, 9)), ((0, 1), 1),
            (0, (1, 1)), ((0, 1), None), (None, (1, 1)), ((True, 1), (1, 1)), ((0, 1), (True, 1)), ((0, 1), (1, 0)),
            ((0, -1), (1, 1)), "ab",
        ]
        for odd in bad:
            self.gives(spread_error, (((odd,), ()),), ("lump", 0))
            self.gives(spread_error, ((COIN[0] + (odd,), ()),), ("lump", 2))
            self.gives(spread_error, (((odd, odd) + COIN[0], PLAIN[1]),), ("lump", 0))

    def test_order_of_lumps(self):
        self.gives(spread_error, (((weight(0, HALF), weight(0, HALF)), ()),), ("lump", 1))
        self.gives(spread_error, (((weight(1, HALF), weight(0, HALF)), ()),), ("lump", 1))
        self.gives(spread_error, (((weight(0, QUARTER), weight(1, HALF), weight(HALF, QUARTER)), ()),), ("lump", 2))
        self.gives(spread_error, (((weight(THIRD, HALF), weight(Fraction(33, 100), HALF)), ()),), ("lump", 1))
        self.gives(spread_error, (((weight(THIRD, HALF), weight(Fraction(34, 100), HALF)), ()),), None)
        self.gives(spread_error, (((weight(1, HALF), weight(0, HALF), None), ()),), ("lump", 1))
        self.gives(spread_error, (((weight(0, HALF), None, weight(0, HALF)), ()),), ("lump", 1))

    def test_curve(self):
        curves = [(None, "form"), ([], "form"), ([piece(0, 1, 1)], "form"), (1, "form"), ("", "form"), ({}, "form"),
                  (((),), ("piece", 0)), ((piece(0, 1, 1), None), ("piece", 1)), ((piece(1, 0, 1),), ("piece", 0)),
                  ((piece(0, 1, 1), piece(0, 1, 2)), ("order", 1)), ((piece(0, 1, 1), piece(1, 2, 1)), ("alike", 1))]
        for curve, error in curves:
            self.gives(spread_error, (((), curve),), ("curve", error))
            self.gives(spread_error, ((SURE[0], curve),), ("curve", error))
            self.gives(spread_error, (((None,), curve),), ("lump", 0))

    def check_below(self, spread):
        word, place = self.told(spread_error, spread)
        self.assertEqual(word, "below")
        self.assertTrue(is_pair(place))
        self.assertNotIn(value(place), curve_knots(spread[1]))
        self.assertLess(curve_value(spread[1], value(place)), 0)

    def test_below(self):
        self.check_below(((), (piece(0, 1, -1),)))
        self.check_below(((), (piece(0, 1, -1, 4),)))
        self.check_below(((), (piece(0, 1, 1), piece(1, 2, Fraction(-1, 10 ** 39)))))
        self.check_below(((weight(0, 2),), (piece(0, 1, -1),)))
        self.check_below(((), (part(0, 1, poly_plus(poly_power(poly(-1, 3), 2), poly(Fraction(-1, 10 ** 30)))),)))
        self.check_below(((), (piece(0, Fraction(3, 2), -2, 0, 1),)))
        self.check_below(((weight(0, 1),), (piece(0, 2, 1, -1),)))

    def test_touching_nought_is_not_below(self):
        self.gives(spread_error, (((), (piece(0, 2, Fraction(3, 2), -3, Fraction(3, 2)),)),), None)
        self.gives(spread_error, (((), (piece(0, 2, 1, -2, 1),)),), ("whole", (2, 3)))
        square = poly_power(poly(-2, 0, 1), 2)
        share = 1 / poly_integral(square, 0, 2)
        self.gives(spread_error, (((), (part(0, 2, poly_times(square, poly(share))),)),), None)
        self.gives(spread_error, (((), (part(0, 2, square),)),), ("whole", pair(1 / share)))

    def test_whole(self):
        for spread in [((), ()), ((weight(0, 2),), ()), ((weight(0, HALF),), ()), (SURE[0], PLAIN[1]), ((), (piece(0, 1, HALF),)),
                       ((weight(0, THIRD), weight(1, THIRD)), (piece(0, 1, HALF),)), ((weight(0, 1),), (piece(0, 1, Fraction(1, GREAT)),)),
                       ((weight(0, Fraction(GREAT - 1, GREAT)),), ())]:
            self.gives(spread_error, (spread,), ("whole", pair(total_of(spread))))

    def test_the_first_of_two_errors(self):
        self.gives(spread_error, (((None,), None),), ("lump", 0))
        self.gives(spread_error, (((weight(0, 2),), (piece(0, 1, -1), piece(0, 1, -1))),), ("curve", ("order", 1)))
        self.gives(spread_error, (((weight(0, 2), weight(0, 2)), (piece(0, 1, -1),)),), ("lump", 1))
        self.check_below(((weight(0, 9),), (piece(0, 1, -1),)))
        self.gives(spread_error, (([], (piece(0, 1, -1),)),), "form")

    def test_great_degrees(self):
        """Any value may hold polynomials of a degree up to 40, with factors of 40 figures."""
        rough = poly(*[Fraction(GREAT - k, GREAT - 3 * k - 2) for k in range(41)])
        self.gives(spread_error, (((), (part(0, 1, rough),)),), ("whole", pair(poly_integral(rough, 0, 1))))
        self.check_below(((), (part(-1, 1, poly_times(rough, poly(-1))),)))
        self.check_below(((), (part(0, 1, poly_plus(poly_power(poly(-1, 2), 40), poly(Fraction(-1, GREAT)))),)))
        touching = poly_power(poly(-1, 0, 3), 20)
        self.gives(spread_error, (((), (part(0, 1, touching),)),), ("whole", pair(poly_integral(touching, 0, 1))))
        self.check_below(((), (part(0, 1, poly_times(poly_power(poly(-1, 0, 3), 18), poly(2, -9, 9))),)))
        sixth = poly_times(poly_power(poly(-1, 0, 3), 18), poly(1, -4, 4))
        self.gives(spread_error, (((), (part(0, 1, sixth),)),), ("whole", pair(poly_integral(sixth, 0, 1))))


class TestMaking(Case):

    def test_even(self):
        for low, high in ((0, 1), (0, 2), (-3, HALF), (THIRD, HALF), (-GREAT, GREAT), (0, Fraction(1, GREAT))):
            self.gives(even, (pair(low), pair(high)), ((), (piece(low, high, Fraction(1) / (Fraction(high) - low)),)))
        for low, high in ((0, 0), (1, 0), (HALF, THIRD), (THIRD, THIRD), (1, -1)):
            self.fails(even, (pair(low), pair(high)), "Unfit()")

    def test_lump(self):
        for place in (0, 1, -1, THIRD, -GREAT, Fraction(1, GREAT)):
            self.gives(lump, (pair(place),), ((weight(place, 1),), ()))

    def test_tent(self):
        for low, top, high in ((0, 1, 2), (0, 0, 2), (0, 2, 2), (-1, 0, 3), (-1, THIRD, HALF), (THIRD, THIRD, HALF),
                               (-2, -1, -1), (1, 2, 5), (-5, Fraction(-9, 2), 7)):
            spread = self.told(tent, pair(low), pair(top), pair(high))
            low, top, high = Fraction(low), Fraction(top), Fraction(high)
            height = 2 / (high - low)
            pieces = []
            if low < top:
                pieces.append(piece(low, top, -low * height / (top - low), height / (top - low)))
            if top < high:
                pieces.append(piece(top, high, high * height / (high - top), -height / (high - top)))
            self.assertEqual(spread, ((), tuple(pieces)))
            self.gives(spread_error, (spread,), None)

    def test_tent_that_does_not_fit(self):
        for low, top, high in ((0, 3, 2), (0, -1, 2), (0, 0, 0), (2, 1, 0), (1, 1, 0), (1, 0, 0), (0, Fraction(21, 10), 2),
                               (0, Fraction(-1, GREAT), 2), (5, 5, 5), (1, 3, 1), (1, 0, 1)):
            self.fails(tent, (pair(low), pair(top), pair(high)), "Unfit()")


class TestAsking(Case):

    def setUp(self):
        draw = Draw(31)
        self.spreads = SPREADS + [draw.spread() for _ in range(40)]
        self.draw = draw

    def places(self, spread):
        knots = curve_knots(spread[1]) + [value(place) for place, _ in spread[0]]
        return sorted(set(knots + [Fraction(-9), Fraction(1, 5), Fraction(9)]))

    def chance(self, spread, low, high, low_in, high_in):
        total = Fraction(0)
        for place, share in spread[0]:
            x = value(place)
            if low < x < high or (x == low and low_in and (x < high or high_in)) or (x == high and high_in and (x > low or low_in)):
                total += value(share)
        for begin, end, p in spread[1]:
            begin, end = max(value(begin), low), min(value(end), high)
            if begin < end:
                total += poly_integral(p, begin, end)
        return pair(total)

    def test_heaped(self):
        for spread in self.spreads:
            step = self.told(heaped, spread)
            self.assertTrue(is_step(step))
            self.assertEqual(step[0], (0, 1))
            self.assertEqual(step[1][-1][1:], ((1, 1), ((1, 1),)))
            places = self.places(spread)
            for x in places + [(a + b) / 2 for a, b in zip(places, places[1:])]:
                self.assertEqual(pair(step_value(step, x)), self.chance(spread, Fraction(-99), x, True, True))

    def test_chance(self):
        for spread in self.spreads:
            places = self.places(spread)
            places = places[:3] + places[3::3]
            for low in places:
                for high in places:
                    for low_in in (True, False):
                        for high_in in (True, False):
                            args = (spread, pair(low), pair(high), low_in, high_in)
                            if low > high:
                                self.fails(chance_of, args, "Unfit()")
                            else:
                                self.gives(chance_of, args, self.chance(spread, low, high, low_in, high_in))

    def test_chance_at_a_lump(self):
        for spread, shares in ((COIN, (HALF, HALF)), (AT_KNOTS, (QUARTER, QUARTER)), (PLAIN, (0, 0)), (SURE, (1, 0))):
            for place, share in enumerate(shares):
                for low_in, high_in in ((True, True), (True, False), (False, True), (False, False)):
                    self.gives(chance_of, (spread, (place, 1), (place, 1), low_in, high_in), pair(share) if low_in and high_in else (0, 1))
        self.gives(chance_of, (COIN, (0, 1), (1, 1), True, True), (1, 1))
        self.gives(chance_of, (COIN, (0, 1), (1, 1), False, True), (1, 2))
        self.gives(chance_of, (COIN, (0, 1), (1, 1), True, False), (1, 2))
        self.gives(chance_of, (COIN, (0, 1), (1, 1), False, False), (0, 1))
        self.gives(chance_of, (OUTSIDE, (-5, 1), (0, 1), False, True), (0, 1))
        self.gives(chance_of, (OUTSIDE, (-5, 1), (0, 1), True, True), (1, 4))
        self.fails(chance_of, (SURE, (1, 1), (0, 1), False, False), "Unfit()")
        self.fails(chance_of, (SURE, (1, 2), (1, 3), True, False), "Unfit()")

    def test_moments(self):
        for spread in self.spreads:
            for k in (0, 1, 2, 3, 7, 12):
                total = sum((value(share) * value(place) ** k for place, share in spread[0]), Fraction(0))
                for low, high, p in spread[1]:
                    total += poly_integral(poly_times(p, poly(*[0] * k, 1)), value(low), value(high))
                self.gives(moment, (spread, k), pair(total))
                if k == 0:
                    self.assertEqual(total, 1)
                if k == 1:
                    self.gives(mean, (spread,), pair(total))

    def test_moments_of_some(self):
        self.gives(moment, (SURE, 0), (1, 1))
        self.gives(moment, (SURE, 1), (0, 1))
        self.gives(moment, (SURE, 12), (0, 1))
        self.gives(moment, (COIN, 12), (1, 2))
        self.gives(moment, (PLAIN, 12), (1, 13))
        self.gives(moment, (BENT, 11), (0, 1))
        self.gives(moment, (BENT, 12), (1, 5))
        self.gives(mean, (BENT,), (0, 1))
        self.gives(moment, (lump((-1, 2)), 12), (1, 4096))
        self.gives(moment, (lump((-1, 2)), 11), (-1, 2048))

    def test_ends(self):
        for spread in self.spreads:
            places = curve_knots(spread[1]) + [value(place) for place, _ in spread[0]]
            self.gives(ends, (spread,), (pair(min(places)), pair(max(places))))
        self.gives(ends, (((), (piece(0, 1, QUARTER), piece(2, 3, HALF), piece(4, 5, QUARTER))),), ((0, 1), (5, 1)))
        self.gives(ends, (((weight(0, THIRD), weight(1, THIRD), weight(2, THIRD)), ()),), ((0, 1), (2, 1)))
        self.gives(ends, (OUTSIDE,), ((-5, 1), (7, 1)))
        self.gives(ends, (INSIDE,), ((0, 1), (1, 1)))
        self.gives(ends, (HIGH_LUMP,), ((-3, 1), (4, 1)))
        self.gives(ends, (LOW_LUMP,), ((-4, 1), (-2, 1)))
        self.gives(ends, (SURE,), ((0, 1), (0, 1)))

    def test_equal_chances_are_equal_spreads(self):
        """Two spreads with the same heaped step curve are the same."""
        seen = {}
        for spread in self.spreads:
            self.assertEqual(seen.setdefault(heaped(spread), spread), spread)

    def test_many_pieces(self):
        share = Fraction(1, 2 * sum(range(1, 26)))
        spread = (tuple(weight(Fraction(2 * k + 1, 2), Fraction(1, 50)) for k in range(25)),
                  tuple(piece(k, k + 1, (k + 1) * share) for k in range(25)))
        self.assertTrue(is_curve(spread[1]))
        self.gives(spread_error, (spread,), None)
        self.gives(ends, (spread,), ((0, 1), (25, 1)))
        for low, high in ((0, 25), (HALF, Fraction(49, 2)), (3, 3), (HALF, HALF), (-5, 30)):
            low, high = Fraction(low), Fraction(high)
            for low_in, high_in in ((True, True), (True, False), (False, True), (False, False)):
                self.gives(chance_of, (spread, pair(low), pair(high), low_in, high_in),
                           self.chance(spread, low, high, low_in, high_in))


if __name__ == "__main__":
    unittest.main()
