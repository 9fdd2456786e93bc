"""Sign papers: [E1] and [E2]."""

import unittest
from fractions import Fraction

from tests.oracle import (Draw, is_pair, is_sign_paper, pair, poly, poly_of_places, poly_plus, poly_power, poly_times,
                          poly_value, value)
from tests.support import ODD_VALUES, Case, run_examples
from unsureworks.errors import BelowAt
from unsureworks.signs import sign_holds, sign_paper

EXAMPLES = """
>>> from unsureworks.signs import sign_holds, sign_paper
>>> one, x, none = ((1, 1),), ((0, 1), (1, 1)), ()
>>> square = ((4, 1), (0, 1), (-4, 1), (0, 1), (1, 1))
>>> sign_holds(square, (1, 1), (2, 1), (((1, 1), (2, 1), ((-2, 1), (0, 1), (1, 1)), one),))
True
>>> falling = ((1, 1), (0, 1), (-1, 1))
>>> sign_holds(falling, (0, 1), (1, 1), (((0, 1), (1, 1), one, falling),)), sign_holds(falling, (0, 1), (2, 1), (((0, 1), (2, 1), one, falling),))
(True, False)
>>> dip = ((3, 1), (-8, 1), (8, 1))
>>> whole = (((0, 1), (1, 1), one, dip),)
>>> halves = (((0, 1), (1, 2), one, dip), ((1, 2), (1, 1), one, dip))
>>> sign_holds(dip, (0, 1), (1, 1), whole), sign_holds(dip, (0, 1), (1, 1), halves), sign_holds(dip, (0, 1), (1, 1), halves[:1])
(False, True, False)
>>> sign_holds(none, (0, 1), (1, 1), (((0, 1), (1, 1), none, x),)), sign_holds(one, (0, 1), (1, 1), [((0, 1), (1, 1), one, one)])
(True, False)
>>> sign_holds(dip, (0, 1), (1, 1), sign_paper(dip, (0, 1), (1, 1))), sign_holds(square, (1, 1), (2, 1), sign_paper(square, (1, 1), (2, 1)))
(True, True)
"""

HALF, THIRD = Fraction(1, 2), Fraction(1, 3)
GREAT = 10 ** 40 - 1
ONE = poly(1)
X = poly(0, 1)
TWO = poly(-2, 0, 1)
DIP = poly(3, -8, 8)
SQUARE = poly_power(TWO, 2)


class TestSignPaper(Case):

    def test_examples(self):
        run_examples(self, EXAMPLES)

    def test_example_told_in_words(self):
        self.below(X, -1, 1)
        with self.assertRaises(BelowAt) as caught:
            sign_paper(((0, 1), (1, 1)), (-1, 1), (1, 1))
        self.assertTrue(-1 <= value(caught.exception.place) < 0)

    def paper(self, p, low, high):
        """There is a paper, and it holds."""
        paper = self.told(sign_paper, p, pair(low), pair(high))
        self.assertTrue(is_sign_paper(p, pair(low), pair(high), paper), (p, low, high))
        self.gives(sign_holds, (p, pair(low), pair(high), paper), True)
        return paper

    def below(self, p, low, high):
        """There is a place, and the polynomial is below 0 there."""
        places = []
        for call in (lambda: sign_paper(p, pair(low), pair(high)),
                     lambda: sign_paper(polynomial=p, low=pair(low), high=pair(high))):
            with self.assertRaises(BelowAt) as caught:
                call()
            places.append(caught.exception.place)
        self.assertTrue(is_pair(places[0]))
        self.assertEqual(places[0], places[1])
        self.assertTrue(low <= value(places[0]) <= high)
        self.assertLess(poly_value(p, value(places[0])), 0)

    def either(self, p, low, high):
        try:
            sign_paper(p, pair(low), pair(high))
        except BelowAt:
            self.below(p, low, high)
            return "place"
        self.paper(p, low, high)
        return "paper"

    def test_degree_0_and_below(self):
        for low, high in ((0, 1), (-GREAT, GREAT), (THIRD, HALF)):
            self.paper((), low, high)
            self.paper(ONE, low, high)
            self.paper(poly(Fraction(1, GREAT)), low, high)
            self.below(poly(-1), low, high)
            self.below(poly(Fraction(-1, GREAT)), low, high)

    def test_nought_at_the_ends(self):
        for low, high in ((0, 1), (THIRD, HALF), (-2, 5)):
            self.paper(poly_of_places(low), low, high)
            self.below(poly_of_places(high), low, high)
            self.paper(poly_times(poly_of_places(high), poly(-1)), low, high)
            self.below(poly_times(poly_of_places(low), poly(-1)), low, high)
            self.paper(poly_times(poly_of_places(low, high), poly(-1)), low, high)
            self.below(poly_of_places(low, high), low, high)
            self.paper(poly_of_places(low, low, high, high), low, high)
            self.paper(poly_times(poly_of_places(low, low, low, high), poly(-1)), low, high)
            self.below(poly_of_places(low, low, low, high), low, high)
            self.paper(poly_of_places(low, low, low, low, low), low, high)
            self.paper(poly_times(poly_of_places(high, high, high), poly(-7)), low, high)
            self.below(poly_of_places(high, high, high), low, high)

    def test_nought_within(self):
        for place in (HALF, THIRD, Fraction(1, GREAT), Fraction(GREAT - 1, GREAT)):
            self.below(poly_of_places(place), 0, 1)
            self.below(poly_of_places(place, place, place), 0, 1)
            for often in (2, 4, 12):
                p = poly_power(poly_of_places(place), often)
                self.paper(p, 0, 1)
                self.below(poly_times(p, poly(-1)), 0, 1)
        self.paper(SQUARE, 1, 2)
        self.paper(SQUARE, -2, 2)
        self.below(TWO, 1, 2)
        self.below(poly_times(SQUARE, TWO), 1, 2)
        self.paper(poly_times(SQUARE, TWO), Fraction(3, 2), 2)
        self.paper(poly_power(TWO, 6), 1, 2)
        self.paper(poly_times(SQUARE, poly_of_places(1)), 1, 2)
        self.below(poly_times(SQUARE, poly_of_places(2)), 1, 2)
        self.paper(poly_times(SQUARE, poly_power(poly(-3, 0, 1), 2)), 0, 2)
        self.paper(poly_times(poly_power(TWO, 2), poly_power(poly_of_places(THIRD), 4)), 0, 2)
        # It is 0 just where it would be below 0 otherwise.
        self.below(poly_times(poly(-1), poly_power(poly_of_places(HALF), 2)), 0, 1)
        self.below(poly_times(poly(-1), poly_times(poly_power(poly_of_places(HALF), 2), SQUARE)), 0, 2)

    def test_nought_outside(self):
        self.paper(poly_of_places(-1), 0, 1)
        self.paper(TWO, 2, 3)
        self.paper(poly_of_places(2, 2, 2, 3), 0, 1)
        self.paper(poly_times(TWO, poly(-1)), -1, 1)
        self.paper(poly_of_places(Fraction(-1, GREAT)), 0, 1)
        self.below(poly_of_places(Fraction(1, GREAT)), 0, 1)

    def test_narrow_stretches(self):
        for tiny in (Fraction(1, 10 ** 6), Fraction(1, 10 ** 20), Fraction(1, 10 ** 38)):
            for place in (THIRD, HALF, Fraction(5, 7)):
                p = poly_power(poly_of_places(place), 2)
                self.below(poly_plus(p, poly(-tiny)), 0, 1)
                self.paper(poly_plus(p, poly(tiny)), 0, 1)
                self.below(poly_of_places(place, place + tiny), 0, 1)
                self.below(poly_plus(poly_power(p, 6), poly(-tiny)), 0, 1)
            self.below(poly_plus(SQUARE, poly(-tiny)), 1, 2)
            self.paper(poly_plus(SQUARE, poly(tiny)), 1, 2)
            self.below(poly_times(TWO, poly(-2 - tiny, 0, 1)), 1, 2)
            # Beside one end alone.
            self.below(poly(-tiny, 1), 0, 1)
            self.below(poly(1 - tiny, -1), 0, 1)
            self.below(poly_times(poly(-tiny, 1), poly_power(poly_of_places(THIRD), 2)), 0, 1)
            self.below(poly_times(poly(1 - tiny, -1), SQUARE), 0, 1)
            self.paper(poly_times(poly(tiny, 1), SQUARE), 0, 1)

    def test_drawn_ones(self):
        draw = Draw(300)
        told = {"place": 0, "paper": 0}
        for _ in range(150):
            p = draw.small_poly(3)
            q = draw.small_poly(3)
            p = draw.lot.choice([p, poly_times(p, p), poly_times(poly_times(p, p), q), poly_plus(poly_times(p, p), poly(draw.number()))])
            low, high = sorted([draw.small(), draw.small() + Fraction(1, 11)])
            told[self.either(p, low, high)] += 1
        self.assertGreater(min(told.values()), 30)
        for _ in range(15):
            p = draw.poly(12)
            self.either(p, draw.small() - 12, draw.small() + 12)
        self.either(poly(*[Fraction(GREAT - k, GREAT - 3 * k - 2) * (-1) ** k for k in range(13)]), Fraction(-1, GREAT), GREAT)


class TestSignHolds(Case):

    def is_told(self, p, low, high, value, expected):
        self.gives(sign_holds, (p, low, high, value), expected)

    def test_any_value(self):
        for odd in ODD_VALUES + [(), ((),), [], "paper"]:
            self.is_told((), (0, 1), (1, 1), odd, False)
            self.is_told(ONE, (0, 1), (1, 1), odd, False)
            self.is_told(ONE, (0, 1), (1, 1), (odd,), False)
            self.is_told(ONE, (0, 1), (1, 1), (((0, 1), (1, 1), ONE, ONE), odd), False)
            good = ((0, 1), (1, 1), ONE, ONE)
            for place in range(4):
                item = good[:place] + (odd,) + good[place + 1:]
                self.is_told(ONE, (0, 1), (1, 1), (item,), False)
        item = ((0, 1), (1, 1), ONE, ONE)
        self.is_told(ONE, (0, 1), (1, 1), (item,), True)
        self.is_told(ONE, (0, 1), (1, 1), [item], False)
        self.is_told(ONE, (0, 1), (1, 1), (list(item),), False)
        self.is_told(ONE, (0, 1), (1, 1), item, False)
        self.is_told(ONE, (0, 1), (1, 1), (item[:3],), False)
        self.is_told(ONE, (0, 1), (1, 1), (item + (ONE,),), False)
        self.is_told(ONE, (0, 1), (1, 1), ((list(item[0]),) + item[1:],), False)
        self.is_told(ONE, (0, 1), (1, 1), (((0, 1), (1, 1), list(ONE), ONE),), False)
        self.is_told(ONE, (0, 1), (1, 1), (((0, 1), (1, 1), ONE, [(1, 1)]),), False)
        self.is_told(ONE, (0, 1), (1, 1), (((0, 1), (1, 1), ((1, 1), (0, 1)), ONE),), False)
        self.is_told(ONE, (0, 1), (1, 1), (((False, 1), (1, 1), ONE, ONE),), False)
        self.is_told(ONE, (0, 1), (1, 1), (((0, 2), (1, 1), ONE, ONE),), False)
        self.is_told(ONE, (0, 1), (1, 1), (((0, 1), (1, 1), ONE, ((2, 2),)),), False)
        self.is_told(ONE, (0, 1), (1, 1), (((0, 1), (1, 1), ((True, 1),), ONE),), False)

    def test_begins_and_ends(self):
        def items(*places):
            return tuple((pair(a), pair(b), ONE, X) for a, b in places)
        for places, expected in (
                ([(1, 2)], True), ([(1, 0)], False), ([(2, 1)], False), ([(1, 1)], False), ([(0, 2)], False), ([(1, 3)], False),
                ([(1, Fraction(3, 2)), (Fraction(3, 2), 2)], True), ([(1, Fraction(3, 2)), (Fraction(4, 3), 2)], False),
                ([(1, Fraction(4, 3)), (Fraction(3, 2), 2)], False), ([(Fraction(3, 2), 2), (1, Fraction(3, 2))], False),
                ([(1, 2), (2, 2)], False), ([(1, 1), (1, 2)], False), ([(1, 3), (3, 2)], False), ([(1, 2), (1, 2)], False),
                ([(1, Fraction(3, 2))], False), ([(Fraction(3, 2), 2)], False), ([], False), ([(1, 2), (2, 3)], False),
                ([(0, 1), (1, 2)], False), ([(1 + Fraction(k, 20), 1 + Fraction(k + 1, 20)) for k in range(20)], True),
                ([(1 + Fraction(k, 20), 1 + Fraction(k + 1, 20)) for k in range(20) if k != 7], False)):
            self.is_told(X, (1, 1), (2, 1), items(*places), expected)

    def test_products(self):
        for s, r, p in ((X, ONE, poly(0, 0, 1)), (ONE, X, X), (poly(2), X, poly(0, 4)), (poly(-2), X, poly(0, 4)),
                        (poly(-1, 1), ONE, poly(1, -2, 1)), (poly(1, -1), ONE, poly(1, -2, 1)), ((), ONE, ()), (X, (), ()),
                        ((), (), ()), ((), poly(-1), None), (X, X, poly(0, 0, 0, 1)), (TWO, X, poly(0, 4, 0, -4, 0, 1))):
            paper = (((1, 1), (2, 1), s, r),)
            if p is not None:
                self.is_told(p, (1, 1), (2, 1), paper, True)
                self.is_told(poly_plus(p, poly(1)), (1, 1), (2, 1), paper, False)
                self.is_told(poly_plus(p, poly(0, Fraction(1, GREAT))), (1, 1), (2, 1), paper, False)
                self.is_told(poly_times(p, poly(2)), (1, 1), (2, 1), paper, p == ())
                self.is_told(poly_times(p, X), (1, 1), (2, 1), paper, p == ())
                self.is_told((), (1, 1), (2, 1), paper, p == ())
        # s * r and s * s are not asked.
        self.is_told(poly_times(X, TWO), (1, 1), (2, 1), (((1, 1), (2, 1), X, TWO),), False)
        self.is_told(poly_times(X, X), (1, 1), (2, 1), (((1, 1), (2, 1), X, X),), False)

    def test_different_factors_in_items(self):
        p = poly_times(poly_power(poly_of_places(1), 2), X)
        first, second = ((0, 1), (1, 1), poly(-1, 1), X), ((1, 1), (2, 1), ONE, p)
        self.is_told(p, (0, 1), (2, 1), (first, second), is_sign_paper(p, (0, 1), (2, 1), (first, second)))
        first, second = ((0, 1), (1, 1), poly(-1, 1), X), ((1, 1), (2, 1), poly(1, -1), X)
        self.is_told(p, (0, 1), (2, 1), (first, second), True)
        self.is_told(p, (0, 1), (2, 1), (first, ((1, 1), (2, 1), poly(1, -1), poly(0, 2))), False)
        self.is_told(p, (0, 1), (2, 1), (((0, 1), (1, 1), ONE, X), second), False)

    def test_rows(self):
        # r of degree 0, and r ().
        self.is_told(poly(3), (0, 1), (1, 1), (((0, 1), (1, 1), ONE, poly(3)),), True)
        self.is_told(poly(-3), (0, 1), (1, 1), (((0, 1), (1, 1), ONE, poly(-3)),), False)
        self.is_told(poly(0, 0, -3), (0, 1), (1, 1), (((0, 1), (1, 1), X, poly(-3)),), False)
        # A number of the row is below 0 though the polynomial is nowhere.
        self.is_told(DIP, (0, 1), (1, 1), (((0, 1), (1, 1), ONE, DIP),), False)
        self.is_told(poly(1, -2, 1), (0, 1), (2, 1), (((0, 1), (2, 1), ONE, poly(1, -2, 1)),), False)
        self.is_told(poly(1, -2, 1), (0, 1), (1, 1), (((0, 1), (1, 1), ONE, poly(1, -2, 1)),), True)
        self.is_told(X, (0, 1), (1, 1), (((0, 1), (1, 1), ONE, X),), True)
        self.is_told(X, (-1, 1), (1, 1), (((-1, 1), (1, 1), ONE, X),), False)
        self.is_told(poly(1, -1), (0, 1), (1, 1), (((0, 1), (1, 1), ONE, poly(1, -1)),), True)
        # The row belongs to the degree of r, however low that is: x * x + x from 0 on has the row 0, 1, 2.
        for low, high in ((0, 1), (0, GREAT), (Fraction(-1, GREAT), 1), (-1, 0)):
            p = poly(0, 1, 1)
            paper = ((pair(low), pair(high), ONE, p),)
            self.is_told(p, pair(low), pair(high), paper, is_sign_paper(p, pair(low), pair(high), paper))
        draw = Draw(310)
        told = {True: 0, False: 0}
        for _ in range(200):
            r = poly(*[draw.small() + 3 for _ in range(draw.lot.randint(1, 6))])
            low, high = sorted([draw.small(), draw.small() + Fraction(1, 11)])
            paper = ((pair(low), pair(high), ONE, r),)
            expected = is_sign_paper(r, pair(low), pair(high), paper)
            told[expected] += 1
            self.is_told(r, pair(low), pair(high), paper, expected)
        self.assertGreater(min(told.values()), 30)

    def test_changed_papers(self):
        draw = Draw(311)
        told = {True: 0, False: 0}
        for p, low, high in ((DIP, 0, 1), (SQUARE, 1, 2), (poly(1, 0, -1), 0, 1), (poly_times(SQUARE, DIP), 0, 2), ((), 0, 1),
                             (poly_plus(SQUARE, poly(Fraction(1, 1000))), 1, 2)):
            paper = sign_paper(p, pair(low), pair(high))
            for _ in range(40):
                items = [list(item) for item in paper]
                item = draw.lot.choice(items)
                item[draw.lot.randrange(4)] = draw.lot.choice([item[0], item[1], item[2], item[3], ONE, X, (), (1, 2), poly(-1), None])
                if draw.lot.random() < 0.2:
                    items.pop(draw.lot.randrange(len(items)))
                changed = tuple(tuple(item) for item in items)
                expected = is_sign_paper(p, pair(low), pair(high), changed)
                told[expected] += 1
                self.is_told(p, pair(low), pair(high), changed, expected)
                self.is_told(p, pair(low), pair(high + 1), paper, False)
                self.is_told(poly_plus(p, ONE), pair(low), pair(high), paper, False)
        self.assertGreater(min(told.values()), 5)

    def test_great_degrees(self):
        s = poly(*[Fraction(GREAT - k, GREAT - 3 * k - 2) for k in range(41)])
        self.is_told(ONE, (0, 1), (1, 1), (((0, 1), (1, 1), s, s),), False)
        s = poly(*[Fraction(GREAT - k, GREAT - 3 * k - 2) for k in range(5)])
        r = poly(*[Fraction(GREAT - k * k, GREAT - 5 * k - 2) for k in range(5)])
        p = poly_times(poly_times(s, s), r)
        self.is_told(p, (0, 1), (1, 1), (((0, 1), (1, 1), s, r),), True)
        self.is_told(p, (0, 1), (1, GREAT), (((0, 1), (1, GREAT), s, r),), True)
        self.is_told(p, (-GREAT, 1), (GREAT, 1), (((-GREAT, 1), (GREAT, 1), s, r),), False)
        self.is_told(p, (0, 1), (1, 1), tuple((pair(Fraction(k, 100)), pair(Fraction(k + 1, 100)), s, r) for k in range(100)), True)


if __name__ == "__main__":
    unittest.main()
