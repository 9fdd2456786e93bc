"""Integrals: [G1], [G2]."""

import itertools
import time
import unittest
from fractions import Fraction
from math import comb, factorial

from tests.oracle import Draw, pair, value
from tests.oracle_worlds import body_total
from tests.support import Case, run_examples
from unsureworks.integrals import body_integral

EXAMPLES = """
>>> from unsureworks.integrals import body_integral
>>> none, one = (0, 1), (1, 1)
>>> right, above = ((((-1, 1), none), none, none), "<="), (((none, (-1, 1)), none, none), "<=")
>>> under = (((one, one), (-1, 1), none), "<")
>>> corner = (right, above, under)
>>> body_integral(2, corner, (((0, 0), one),)), body_integral(2, corner, (((1, 0), one),)), body_integral(2, corner, (((1, 1), one),))
((1, 2), (1, 6), (1, 24))
>>> body_integral(2, corner, (((0, 0), (2, 1)), ((1, 0), (-3, 1)), ((2, 0), one))), body_integral(2, corner, ())
((7, 12), (0, 1))
>>> level = (((one, (-1, 1)), none, none), "=")
>>> body_integral(2, corner + (level,), (((0, 0), one),)), body_integral(2, (right, level), (((0, 0), one),)), body_integral(2, (under, (((none, none), one, none), "<=")), ())
((0, 1), (0, 1), (0, 1))
>>> body_integral(2, corner + ((((none, none), none, none), "="),), (((0, 0), one),))
(1, 2)
>>> body_integral(1, (((((-1, 1),), none, none), "<"), (((one,), (-2, 1), none), "<=")), (((3,), one),))
(4, 1)
>>> body_integral(2, (right, above), ())
raises Endless()
>>> body_integral(2, corner + ((((one, none), none, one), "<"),), ())
raises Unfit()
"""

NONE, ONE = (0, 1), (1, 1)
WORDS = ("<", "<=", "=")


def side(*numbers, word="<=", by=0):
    """A comparison: the factors, and the constant behind them."""
    numbers = [pair(number) for number in numbers]
    return (tuple(numbers[:-1]), numbers[-1], pair(by)), word


def box(*ends, word="<="):
    """The body of all points with each item between two ends."""
    body = ()
    for place, (low, high) in enumerate(ends):
        axis = [1 if place == other else 0 for other in range(len(ends))]
        body += (side(*[-a for a in axis], low, word=word), side(*axis, -Fraction(high), word=word))
    return body


def ones(draws, *exponents):
    """The sum of powers that is one product of powers."""
    return ((exponents or (0,) * draws, ONE),)


class TestBodyIntegral(Case):

    def test_examples(self):
        run_examples(self, EXAMPLES)

    def test_boxes(self):
        for word in ("<", "<="):
            self.gives(body_integral, (1, box((-1, 3), word=word), ones(1)), (4, 1))
            self.gives(body_integral, (1, box((-1, 3), word=word), ones(1, 1)), (4, 1))
            self.gives(body_integral, (2, box((0, 2), (Fraction(1, 2), 3), word=word), ones(2)), (5, 1))
            self.gives(body_integral, (3, box((0, 2), (0, 3), (-1, 4), word=word), ones(3)), (30, 1))
            self.gives(body_integral, (3, box((0, 2), (0, 3), (-1, 4), word=word), ones(3, 1, 1, 1)), (135, 2))
        for a, b, c in itertools.product((0, 1, 5, 12), repeat=3):
            self.gives(body_integral, (3, box((0, 1), (0, 1), (0, 1)), ones(3, a, b, c)), pair(Fraction(1, (a + 1) * (b + 1) * (c + 1))))
            self.gives(body_integral, (3, box((-1, 1), (-1, 1), (-1, 1)), ones(3, a, b, c)),
                       pair(0 if a % 2 or b % 2 or c % 2 else Fraction(8, (a + 1) * (b + 1) * (c + 1))))

    def test_corners(self):
        """Over all points with no item below 0 that make at most 1 together an integral is made of factorials."""
        for draws in (1, 2, 3):
            body = tuple(side(*[-1 if k == other else 0 for other in range(draws)], 0) for k in range(draws)) + (side(*[1] * draws, -1),)
            for exponents in itertools.product((0, 1, 2, 7, 12), repeat=draws):
                expected = Fraction(1)
                for power in exponents:
                    expected *= factorial(power)
                self.gives(body_integral, (draws, body, ones(draws, *exponents)), pair(expected / factorial(sum(exponents) + draws)))
                # As wide as 2 it is so many times as much.
                wide = body[:-1] + (side(*[1] * draws, -2, word="<"),)
                self.assertEqual(body_integral(draws, wide, ones(draws, *exponents)),
                                 pair(expected / factorial(sum(exponents) + draws) * 2 ** (sum(exponents) + draws)))

    def test_sums_of_powers(self):
        body = box((0, 1), (0, 2))
        self.gives(body_integral, (2, body, ()), NONE)
        self.gives(body_integral, (2, body, (((0, 0), (1, 2)), ((0, 1), (-1, 1)), ((3, 2), (2, 5)))), pair(1 - 2 + Fraction(2, 5) * Fraction(8, 12)))
        self.gives(body_integral, (2, body, (((0, 1), ONE), ((1, 0), (-2, 1)))), NONE)
        # (x + y) ** 12 by its single powers, turned by an eighth.
        powers = tuple(((k, 12 - k), pair(comb(12, k))) for k in range(13))
        self.gives(body_integral, (2, (side(1, 1, -1), side(-1, -1, -1), side(1, -1, -1), side(-1, 1, -1)), powers), pair(Fraction(2, 13)))
        self.gives(body_integral, (1, box((0, 1)), tuple(((k,), pair(k + 1)) for k in range(13))), (13, 1))

    def test_no_volume(self):
        for draws in (1, 2, 3):
            axis = [1] + [0] * (draws - 1)
            square = box(*[(0, 1)] * draws)
            powers = ones(draws)
            for body in (
                    square + (side(*axis, -2, word="<"), side(*[-a for a in axis], 2, word="<=")),
                    square + (side(*axis, 1),), square + (side(*axis, 0),), square + (side(*[-a for a in axis], 1),),
                    square + (side(*axis, Fraction(-1, 2), word="="),), square + (side(*axis, 5, word="="),),
                    square + (side(*axis, Fraction(-1, 2)), side(*[-a for a in axis], Fraction(1, 2))),
                    (side(*axis, -1), side(*[-a for a in axis], 1)), (side(*axis, 0, word="="),),
                    (side(*axis, 1, word="<"), side(*[-a for a in axis], 0, word="<=")),
                    box(*[(1, 1)] * draws), box(*[(1, 0)] * draws), box(*[(1, 1)] * draws, word="<"),
                    (side(*[0] * draws, 1),), (side(*[0] * draws, 1, word="<"),), (side(*[0] * draws, 1, word="="),),
                    (side(*[0] * draws, -1, word="="),), (side(*[0] * draws, 0, word="<"),), square + (side(*[0] * draws, 0, word="<"),),
                    square + (side(*[0] * draws, Fraction(1, 9)),), square + (side(*[0] * draws, -1, word="="),)):
                self.gives(body_integral, (draws, body, powers), NONE)
                self.gives(body_integral, (draws, body, ()), NONE)
        # A point alone, a line alone, a plane alone, each by "<=".
        corner = (side(-1, 0, 0, 0), side(0, -1, 0, 0), side(0, 0, -1, 0), side(1, 1, 1, 0))
        self.gives(body_integral, (3, corner, ones(3)), NONE)
        self.gives(body_integral, (3, (side(1, 1, 0, 0), side(-1, 0, 0, 0), side(0, -1, 0, 0)), ones(3)), NONE)
        self.gives(body_integral, (3, (side(1, 2, -1, 0), side(-1, -2, 1, 0)), ones(3)), NONE)

    def test_forms_that_change_nothing(self):
        for draws in (1, 2, 3):
            body, expected = box(*[(0, 2)] * draws), pair(2 ** draws)
            zeros = [0] * draws
            for more in ((side(*zeros, 0),), (side(*zeros, 0, word="="),), (side(*zeros, -1),), (side(*zeros, -1, word="<"),),
                         (side(*zeros, 0), side(*zeros, 0, word="="), side(*zeros, Fraction(-1, 9), word="<")),
                         (side(*[1] * draws, -9),), (side(*[1] * draws, -2 * draws),), (side(*[-1] * draws, 0),), (side(*[1] * draws, -2 * draws, word="<"),),
                         body, body[:1], body[1:2] * 5, tuple((form, "<") for form, _ in body)):
                self.gives(body_integral, (draws, body + more, ones(draws)), expected)
                self.gives(body_integral, (draws, more + body, ones(draws)), expected)
            for f in (Fraction(1, 3), 2, 10 ** 39, Fraction(1, 10 ** 39)):
                grown = tuple((tuple(pair(value(a) * f) for a in factors), pair(value(constant) * f), by) for (factors, constant, by), _ in body)
                self.gives(body_integral, (draws, tuple((form, "<") for form in grown), ones(draws)), expected)
                self.gives(body_integral, (draws, body + tuple((form, "<=") for form in grown), ones(draws)), expected)

    def test_without_an_end(self):
        for draws in (1, 2, 3):
            axis = [1] + [0] * (draws - 1)
            back = [-a for a in axis]
            bodies = [(), (side(*axis, 0),), (side(*back, 0, word="<"),), (side(*[0] * draws, -1),), (side(*[0] * draws, 0, word="="),)]
            if draws > 1:
                bodies += [(side(*axis, -1), side(*back, 0)), tuple(side(*[-1 if k == o else 0 for o in range(draws)], 0) for k in range(draws)),
                           box(*[(0, 1)] * draws)[1:], (side(*[1] * draws, -1), side(*[-1] * draws, 0))]
            for body in bodies:
                for powers in ((), ones(draws), ones(draws, *[12] * draws)):
                    self.fails(body_integral, (draws, body, powers), "Endless()")
                self.gives(body_integral, (draws, body + (side(*axis, 0, word="="),), ones(draws)), NONE)
                self.gives(body_integral, (draws, body + (side(*[0] * draws, 0, word="<"),), ones(draws)), NONE)
                self.gives(body_integral, (draws, body + (side(*axis, 5), side(*back, -5)), ones(draws)), NONE)
        # Endless, though ever narrower parts of it are left out.
        self.fails(body_integral, (2, (side(-1, 0, 0), side(0, -1, 0), side(1, -1, 0)), ()), "Endless()")
        self.fails(body_integral, (3, box((0, 1), (0, 1), (0, 1))[:5], ones(3)), "Endless()")

    def test_t_in_a_form(self):
        for draws in (1, 2, 3):
            square = box(*[(0, 1)] * draws)
            zeros = [0] * draws
            for word in WORDS:
                for by in (1, -1, Fraction(1, 10 ** 39)):
                    self.fails(body_integral, (draws, square + (side(*[1] * draws, 0, word=word, by=by),), ones(draws)), "Unfit()")
                    self.fails(body_integral, (draws, (side(*zeros, 0, word=word, by=by),), ()), "Unfit()")
                    self.fails(body_integral, (draws, (side(*zeros, 1, word="<"), side(*zeros, 1, word=word, by=by)), ()), "Unfit()")

    def test_cuts(self):
        """Both sides of a cut together make the whole."""
        draw = Draw(1000)
        for _ in range(60):
            draws = draw.lot.randint(1, 3)
            body = box(*[(-draw.lot.randint(1, 3), draw.lot.randint(1, 3)) for _ in range(draws)]) + draw_sides(draw, draws, draw.lot.randint(0, 3))
            powers = draw_powers(draw, draws, 3, 3)
            whole = self.told(body_integral, draws, body, powers)
            (factors, constant, _), _ = draw_sides(draw, draws, 1)[0]
            turned = tuple((-a, b) for a, b in factors), (-constant[0], constant[1]), NONE
            parts = [value(body_integral(draws, body + ((form, "<"),), powers)) for form in ((factors, constant, NONE), turned)]
            if any(a for a, _ in factors):
                self.assertEqual(sum(parts), value(whole))

    def test_drawn_ones(self):
        draw = Draw(1001)
        volumes = 0
        for _ in range(100):
            draws = draw.lot.choice([1, 2, 2, 2, 3])
            walls = box(*[sorted(draw.lot.sample(range(-3, 4), 2)) for _ in range(draws)], word="<")
            body = list(walls + draw_sides(draw, draws, draw.lot.randint(0, 1 if draws == 3 else 4)))
            draw.lot.shuffle(body)
            powers = draw_powers(draw, draws, 2, 3)
            expected = body_total(draws, tuple(body), powers)
            volumes += expected != 0
            self.gives(body_integral, (draws, tuple(body), powers), pair(expected))
        self.assertGreater(volumes, 50)

    def test_many_sides(self):
        """As many comparisons as there may be: cut corners of boxes, cones with many sides."""
        corners = [(1, 1, 1), (-1, 1, 1), (1, -1, 1), (1, 1, -1), (-1, -1, 1), (-1, -1, -1)]
        body = box((0, 4), (0, 4), (0, 4)) + tuple(side(*signs, 1 - 4 * signs.count(1)) for signs in corners)
        self.assertEqual(len(body), 12)
        self.gives(body_integral, (3, body, ones(3)), (63, 1))
        self.gives(body_integral, (3, body[:11], ones(3)), (379, 6))
        octagon = (side(1, 0, -3), side(-1, 0, -3), side(0, 1, -3), side(0, -1, -3), side(1, 1, -4), side(1, -1, -4), side(-1, 1, -4), side(-1, -1, -4))
        self.gives(body_integral, (2, octagon + octagon[:4], ones(2)), (28, 1))
        roof = tuple(((factors + (ONE,), constant, by), word) for (factors, constant, by), word in octagon) + box((0, 3), (0, 3), (0, 3))[4:]
        self.gives(body_integral, (3, roof, ones(3)), pair(body_total(3, roof, ones(3))))

    def test_time(self):
        draw = Draw(1002)
        sides = tuple(((tuple(pair(draw.lot.randint(-9, 9)) for _ in range(3)), (-30, 1), NONE), draw.lot.choice(["<", "<="])) for _ in range(12))
        powers = draw_powers(draw, 3, 12, 50)
        start = time.time()
        first = body_integral(3, sides, powers)
        self.assertLess(time.time() - start, 5)
        self.assertEqual(first, body_integral(3, sides[::-1], powers))
        rough = tuple(((tuple(pair(Fraction(a, 10 ** 20 + a)) for a, _ in factors), constant, by), word) for (factors, constant, by), word in sides)
        start = time.time()
        body_integral(3, rough, powers[:5])
        self.assertLess(time.time() - start, 10)


def draw_sides(draw, draws, many):
    """Comparisons with small numbers."""
    return tuple(((tuple(pair(draw.lot.choice([0, 1, -1, 1, 2, Fraction(-1, 2)])) for _ in range(draws)), pair(draw.lot.choice([0, -1, -1, -2, 1])), NONE),
                  draw.lot.choice(["<", "<="])) for _ in range(many))


def draw_powers(draw, draws, most, many):
    """A sum of powers."""
    found = sorted({tuple(draw.lot.randint(0, most) for _ in range(draws)) for _ in range(many)})
    return tuple((exponents, pair(draw.lot.choice([1, -1, 2, Fraction(1, 3)]))) for exponents in found)


if __name__ == "__main__":
    unittest.main()
