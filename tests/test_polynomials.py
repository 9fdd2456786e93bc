"""Polynomials: [A7], [A8], [A9]."""

import unittest
from fractions import Fraction

from tests.oracle import Draw, is_poly, pair, poly, poly_plus, poly_times, poly_value, value
from tests.support import Case, run_examples
from unsureworks.polynomials import added, at, heap_of, multiplied, scaled, shifted, slope_of, stretched

EXAMPLES = """
>>> from unsureworks.polynomials import added, at, heap_of, multiplied, scaled, shifted, slope_of, stretched
>>> p = ((1, 1), (2, 1))
>>> at(p, (1, 2)), at((), (5, 1)), multiplied(p, p), added(p, scaled(p, (-1, 1))), scaled(p, (1, 2))
((2, 1), (0, 1), ((1, 1), (4, 1), (4, 1)), (), ((1, 2), (1, 1)))
>>> slope_of(p), heap_of(p), slope_of(((3, 1),)), shifted(p, (1, 1)), stretched(p, (3, 1)), stretched(p, (0, 1))
(((2, 1),), ((0, 1), (1, 1), (1, 1)), (), ((3, 1), (2, 1)), ((1, 1), (6, 1)), ((1, 1),))
"""

GREAT = 10 ** 40 - 1
POLYS = [
    (), poly(1), poly(-1), poly(0, 1), poly(0, -1), poly(1, 2), poly(-1, -2), poly(Fraction(1, 3)), poly(0, 0, 1),
    poly(1, 0, -1), poly(0, 0, 0, Fraction(2, 7)), poly(1, 1, 1, 1, 1), poly(*[0] * 12, 1), poly(*range(1, 14)),
    poly(*[Fraction(1, k) for k in range(1, 14)]), poly(*[(-1) ** k * k for k in range(13)]),
    poly(0, 1, 0, 1, 0, 1, 0, 1, 0, 1, 0, 1), poly(GREAT, Fraction(-GREAT, GREAT - 1), Fraction(1, GREAT)),
]
PLACES = [(0, 1), (1, 1), (-1, 1), (2, 1), (1, 2), (-3, 2), (7, 5), (GREAT, GREAT - 1), (-1, GREAT)]


def from_points(xs, ys):
    """The polynomial of least degree with the values ys at xs."""
    result = ()
    for k, x in enumerate(xs):
        term = poly(ys[k])
        for other in xs[:k] + xs[k + 1:]:
            term = poly_times(term, poly(-other / (x - other), 1 / (x - other)))
        result = poly_plus(result, term)
    return result


class TestPolynomials(Case):

    def setUp(self):
        draw = Draw(3)
        self.drawn = [draw.poly() for _ in range(40)]
        self.places = [draw.fraction() for _ in range(6)]

    def test_examples(self):
        run_examples(self, EXAMPLES)

    def test_at(self):
        for p in POLYS + self.drawn:
            for f in PLACES + self.places[:2]:
                self.gives(at, (p, f), pair(poly_value(p, value(f))))

    def test_added_and_multiplied(self):
        polys = POLYS + self.drawn[:10]
        for p in polys:
            for q in polys:
                self.gives(added, (p, q), poly_plus(p, q))
                self.gives(multiplied, (p, q), poly_times(p, q))

    def test_sums_that_cancel(self):
        for p in POLYS + self.drawn:
            contrary = poly(*[-value(f) for f in p])
            self.gives(added, (p, contrary), ())
            self.gives(added, (contrary, p), ())
            for kept in range(1, len(p)):
                changed = poly(*[value(f) for f in p[:kept]], *[0] * (len(p) - kept))
                upper = poly(*[0] * kept, *[-value(f) for f in p[kept:]])
                self.gives(added, (p, upper), changed)
                self.gives(added, (upper, p), changed)

    def test_products_with_nothing(self):
        for p in POLYS:
            self.gives(multiplied, (p, ()), ())
            self.gives(multiplied, ((), p), ())
            self.gives(added, (p, ()), p)
            self.gives(added, ((), p), p)
            self.gives(scaled, (p, (0, 1)), ())

    def test_products_whose_middle_cancels(self):
        self.gives(multiplied, (poly(1, 1), poly(1, -1)), poly(1, 0, -1))
        self.gives(multiplied, (poly(1, 1, 1), poly(1, -1)), poly(1, 0, 0, -1))
        self.gives(multiplied, (poly(0, 0, 1), poly(0, 1)), poly(0, 0, 0, 1))
        self.gives(multiplied, (poly(Fraction(2, 3)), poly(Fraction(3, 2))), poly(1))

    def test_scaled(self):
        for p in POLYS + self.drawn:
            for f in PLACES + self.places:
                self.gives(scaled, (p, f), poly_times(p, poly(value(f))))

    def test_slope(self):
        for p in POLYS + self.drawn:
            self.gives(slope_of, (p,), poly(*[k * value(f) for k, f in enumerate(p)][1:]))
        self.gives(slope_of, ((),), ())
        self.gives(slope_of, (poly(Fraction(-7, 3)),), ())
        self.gives(slope_of, (poly(5, 0, 0, Fraction(1, 3)),), poly(0, 0, 1))

    def test_heap(self):
        for p in POLYS + self.drawn:
            self.gives(heap_of, (p,), poly(0, *[value(f) / (k + 1) for k, f in enumerate(p)]))
            self.gives(slope_of, (heap_of(p),), p)
        self.gives(heap_of, ((),), ())
        self.gives(heap_of, (poly(0, 0, 3),), poly(0, 0, 0, 1))

    def test_shifted_and_stretched(self):
        for p in POLYS + self.drawn:
            xs = [Fraction(k) for k in range(max(1, len(p)))]
            for f in PLACES[:6] + self.places[:2]:
                moved = from_points(xs, [poly_value(p, x + value(f)) for x in xs])
                self.gives(shifted, (p, f), moved)
                self.gives(stretched, (p, f), from_points(xs, [poly_value(p, x * value(f)) for x in xs]))
                self.assertEqual(shifted(shifted(p, f), (-f[0], f[1])), p)

    def test_shifted_and_stretched_by_nought(self):
        for p in POLYS + self.drawn:
            self.gives(shifted, (p, (0, 1)), p)
            self.gives(stretched, (p, (1, 1)), p)
            self.gives(stretched, (p, (0, 1)), poly(poly_value(p, 0)))
        for f in PLACES:
            self.gives(shifted, ((), f), ())
            self.gives(stretched, ((), f), ())
            self.gives(scaled, ((), f), ())
            self.gives(at, ((), f), (0, 1))

    def test_great_ones(self):
        great = [Fraction((-1) ** k * (GREAT - 7 * k), GREAT - 2 - 30 * k) for k in range(13)]
        p, f = poly(*great), pair(Fraction(-GREAT, GREAT - 1))
        self.gives(at, (p, f), pair(poly_value(p, value(f))))
        self.gives(multiplied, (p, p), poly_times(p, p))
        self.gives(added, (p, p), poly(*[2 * number for number in great]))
        self.assertTrue(is_poly(shifted(p, f)))
        self.gives(at, (shifted(p, f), (1, 3)), pair(poly_value(p, value(f) + Fraction(1, 3))))
        self.gives(at, (stretched(p, f), (1, 3)), pair(poly_value(p, value(f) * Fraction(1, 3))))


if __name__ == "__main__":
    unittest.main()
