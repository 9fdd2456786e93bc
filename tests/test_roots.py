"""Numbers: part D."""

import functools
import itertools
import unittest
from fractions import Fraction

from tests.oracle import (Draw, chance_up_to, is_pair, is_poly, only_place, pair, places_between, poly,
                          poly_of_places, poly_plus, poly_power, poly_times, poly_value, probes, shared,
                          spread_places, value)
from tests.support import ODD_VALUES, Case, run_examples
from unsureworks.making import joined, joined_often, kth, mixed, moved
from unsureworks.roots import near, number_error, order_of, quantile, roots_of
from unsureworks.spreads import even, lump, tent

EXAMPLES = """
>>> from unsureworks.roots import near, number_error, order_of, quantile, roots_of
>>> two = ((-2, 1), (0, 1), (1, 1))
>>> root = ("root", two, (1, 1), (2, 1))
>>> number_error(root), number_error((7, 5)), number_error((2, 4)), number_error(("root", two, (1, 1))), number_error(("root", (), (1, 1), (2, 1)))
(None, None, 'form', 'form', 'form')
>>> number_error(("root", two, (2, 1), (1, 1))), number_error(("root", ((0, 1), (-1, 1), (1, 1)), (0, 1), (3, 1)))
('stretch', 'end')
>>> number_error(("root", two, (-2, 1), (2, 1))), number_error(("root", two, (2, 1), (3, 1))), number_error(("root", ((-1, 4), (0, 1), (1, 1)), (0, 1), (1, 1)))
('places', 'places', 'fraction')
>>> other = ("root", ((10, 1), (-2, 1), (-5, 1), (1, 1)), (1, 1), (3, 2))
>>> order_of(root, other), order_of(root, (7, 5)), order_of((17, 12), root), order_of((7, 5), (17, 12))
(0, 1, 1, -1)
>>> order_of(root, ("root", ((-3, 1), (0, 1), (1, 1)), (1, 1), (2, 1))), order_of(root, ("root", two, (-2, 1), (0, 1)))
(-1, 1)
>>> order_of(near(root, (1, 100)), (7, 5)), order_of(near(root, (1, 100)), (143, 100)), near((7, 5), (1, 10 ** 30)) == (8, 5)
(1, -1, False)
>>> roots_of(((2, 1), (-3, 1), (1, 1)), (1, 1), (2, 1)), roots_of(((0, 1), (0, 1), (1, 1)), (-1, 1), (1, 1)), roots_of(two, (0, 1), (1, 1))
(((1, 1), (2, 1)), ((0, 1),), ())
>>> roots_of(((5, 1),), (0, 1), (1, 1)), roots_of(((-1, 1), (2, 1)), (1, 2), (1, 2))
((), ((1, 2),))
>>> found = roots_of(((2, 1), (-4, 1), (1, 1), (2, 1), (-1, 1)), (-2, 1), (2, 1))
>>> len(found), found[1], order_of(found[0], ("root", two, (-2, 1), (0, 1))), order_of(found[2], root)
(3, (1, 1), 0, 0)
>>> from unsureworks.spreads import even, tent
>>> quantile(even((0, 1), (1, 1)), (1, 3)), quantile(tent((0, 1), (1, 1), (2, 1)), (1, 2))
((1, 3), (1, 1))
>>> place = quantile(tent((0, 1), (1, 1), (2, 1)), (1, 4))
>>> order_of(place, (7, 10)), order_of(place, (5, 7)), order_of(place, ("root", ((-1, 1), (0, 1), (2, 1)), (0, 1), (1, 1)))
(1, -1, 0)
>>> lumped = ((((0, 1), (1, 2)),), (((0, 1), (2, 1), ((1, 4),)),))
>>> quantile(lumped, (1, 4)), quantile(lumped, (1, 2)), quantile(lumped, (3, 4)), quantile(lumped, (1, 1))
((0, 1), (0, 1), (1, 1), (2, 1))
>>> parted = ((), (((0, 1), (1, 1), ((1, 2),)), ((2, 1), (3, 1), ((1, 2),))))
>>> quantile(parted, (1, 2)), quantile(parted, (3, 4))
((1, 1), (5, 2))
>>> quantile(parted, (0, 1))
raises Unfit()
"""

HALF, THIRD, QUARTER = Fraction(1, 2), Fraction(1, 3), Fraction(1, 4)
GREAT = 10 ** 40 - 1
TWO = poly(-2, 0, 1)
THREE = poly(-3, 0, 1)


def root(p, low, high):
    """A root, or what looks like one."""
    return "root", p, pair(low), pair(high)


def product(*factors):
    """The product of polynomials."""
    result = poly(1)
    for factor in factors:
        result = poly_times(result, factor)
    return result


@functools.lru_cache(maxsize=None)
def worth(number):
    """The place of a number, up to about 1 / 10 ** 60, as a Fraction; roots have a place once only, with a change of sign."""
    if number[0] != "root":
        return value(number)
    _, p, low, high = number
    low, high = value(low), value(high)
    while high - low > Fraction(1, 10 ** 60):
        middle = (low + high) / 2
        if (poly_value(p, middle) > 0) == (poly_value(p, low) > 0):
            low = middle
        else:
            high = middle
    return low


ROOTS = [
    root(TWO, 1, 2), root(TWO, -2, 0), root(THREE, 1, 2), root(poly(-2, 0, 0, 1), 0, 2), root(poly(-1, -1, 1), 0, 2),
    root(poly(-1, -1, 1), -1, 0), root(poly(-1, -1, 0, 0, 0, 1), 0, 2), root(poly(-1, 0, 2), 0, 1),
    root(poly(Fraction(-1, 3), 0, 0, 0, 1), -1, 0), root(poly(-7, 0, 5), 1, GREAT), root(poly(-7, 0, 5), -GREAT, 1),
]
FRACTIONS = [(0, 1), (1, 1), (-1, 1), (7, 5), (17, 12), (577, 408), (1393, 985), (-GREAT, 1), (1, GREAT), (2, 1), (-3, 7)]


class TestNumberError(Case):

    def test_examples(self):
        run_examples(self, EXAMPLES)

    def test_numbers(self):
        for number in ROOTS + FRACTIONS:
            self.gives(number_error, (number,), None)
        self.gives(number_error, (root(product(TWO, TWO), 1, 2),), None)
        self.gives(number_error, (root(poly_power(TWO, 20), 1, 2),), None)
        self.gives(number_error, (root(product(poly_power(TWO, 3), poly_of_places(0, 3, 5, 5)), 1, 2),), None)
        self.gives(number_error, (root(product(TWO, THREE), Fraction(3, 2), 2),), None)
        self.gives(number_error, (root(product(TWO, poly(1, 0, 1)), 0, 2),), None)

    def test_form(self):
        for odd in ODD_VALUES:
            if not is_pair(odd):
                self.gives(number_error, (odd,), "form")
        good = root(TWO, 1, 2)
        for place in range(4):
            for odd in ODD_VALUES + [(), "Root", "ROOT", "roots", b"root", ("root",), list(TWO), TWO + ((0, 1),), (1, 2, 3), (2, 4)]:
                if place == 1 and is_poly(odd) and odd:
                    continue
                if place > 1 and is_pair(odd):
                    continue
                self.gives(number_error, (good[:place] + (odd,) + good[place + 1:],), "form")
        for odd in (list(good), good[:3], good + ((3, 1),), good[1:], ("root",) + good, ((0, 1), (1, 1)), ("root",) * 4,
                    {"root": good}, ()):
            self.gives(number_error, (odd,), "form")

    def test_stretch(self):
        for p in (TWO, poly(1), poly_of_places(1), poly(0, 1)):
            for low, high in ((1, 1), (2, 1), (1, -1), (0, 0), (HALF, THIRD)):
                self.gives(number_error, (root(p, low, high),), "stretch")

    def test_end(self):
        for low, high in ((1, 2), (0, 1), (1, Fraction(3, 2)), (1, 9), (-9, 1), (THIRD, HALF), (0, THIRD), (THIRD, 1)):
            self.gives(number_error, (root(product(poly_of_places(1, THIRD), TWO), low, high),), "end")
        # Several words apply: the first is told.
        self.gives(number_error, (root(poly_of_places(1, 2), 1, 2),), "end")
        self.gives(number_error, (root(poly_of_places(1, 2, Fraction(3, 2)), 1, 2),), "end")
        self.gives(number_error, (root(poly_of_places(1, 2), 2, 1),), "stretch")
        self.gives(number_error, (root(poly_of_places(1), 1, 1),), "stretch")

    def test_places(self):
        for p in (poly(1), poly(-5), poly(1, 0, 1), TWO, product(poly(1, 0, 1), poly(2, 1, 1))):
            self.gives(number_error, (root(p, 3, 4),), "places")
        self.gives(number_error, (root(product(TWO, THREE), 1, 2),), "places")
        self.gives(number_error, (root(product(TWO, poly_of_places(Fraction(3, 2))), 1, 2),), "places")
        self.gives(number_error, (root(product(TWO, TWO, THREE), 1, 2),), "places")
        self.gives(number_error, (root(poly_of_places(THIRD, HALF), 0, 1),), "places")
        self.gives(number_error, (root(poly_power(poly_of_places(THIRD, HALF), 2), 0, 1),), "places")
        self.gives(number_error, (root(poly(-2, 0, 1), -2, 2),), "places")
        close = poly_plus(poly_power(poly(-1, 3), 2), poly(Fraction(1, GREAT)))
        self.gives(number_error, (root(close, 0, 1),), "places")
        self.gives(number_error, (root(poly_plus(close, poly(Fraction(-2, GREAT))), 0, 1),), "places")

    def test_fraction(self):
        for place in (HALF, THIRD, Fraction(2, 7), Fraction(1, GREAT), Fraction(GREAT - 1, GREAT)):
            for often in (1, 2, 5):
                self.gives(number_error, (root(poly_power(poly_of_places(place), often), 0, 1),), "fraction")
                self.gives(number_error, (root(product(poly_power(poly_of_places(place), often), TWO), 0, 1),), "fraction")
        self.gives(number_error, (root(poly(0, 1), -1, 1),), "fraction")
        self.gives(number_error, (root(poly(0, 0, 0, 1), -1, 1),), "fraction")
        self.gives(number_error, (root(poly(0, 1, 0, 1), -1, 1),), "fraction")
        self.gives(number_error, (root(poly(-QUARTER, 0, 1), 0, 1),), "fraction")

    def test_against_rows_of_signs(self):
        draw = Draw(200)
        words = {}
        for _ in range(500):
            p = draw.small_poly(6)
            for factor in (TWO, poly_of_places(draw.small()), THREE):
                if draw.lot.random() < 0.5:
                    p = poly_times(p, factor)
            if draw.lot.random() < 0.3:
                p = poly_times(p, p)
            if p == ():
                continue
            low, high = draw.small(), draw.small()
            expected = self.expected_error(p, low, high)
            words[expected] = words.get(expected, 0) + 1
            self.gives(number_error, (root(p, low, high),), expected)
        self.assertTrue(all(words[word] > 5 for word in (None, "stretch", "end", "places", "fraction")), words)

    def expected_error(self, p, low, high):
        if low >= high:
            return "stretch"
        if poly_value(p, low) == 0 or poly_value(p, high) == 0:
            return "end"
        if places_between(p, low, high) != 1:
            return "places"
        return "fraction" if only_place(p, low, high) is not None else None

    def test_great_degrees(self):
        rough = poly(*[Fraction(GREAT - k * k, GREAT - 3 * k - 2) for k in range(41)])
        self.gives(number_error, (root(rough, 0, 1),), "places")
        draw = Draw(201)
        for many, great in ((41, 9), (41, 99), (10, GREAT)):
            for _ in range(3):
                rough = poly(*[Fraction(draw.lot.randint(-great, great), draw.lot.choice([1, 1, 7, great])) for _ in range(many)])
                for low, high in ((Fraction(-1, GREAT), 2), (0, Fraction(GREAT, GREAT - 1)), (-GREAT, GREAT)):
                    found = number_error(root(rough, low, high))
                    self.assertEqual(found, None if places_between(rough, low, high) == 1 else "places")
        rough = poly(*[Fraction(draw.lot.randint(1, GREAT), draw.lot.randint(1, GREAT)) for _ in range(39)])
        self.gives(number_error, (root(product(rough, TWO), 1, 2),), None)
        self.gives(number_error, (root(product(rough, poly_of_places(Fraction(GREAT - 1, GREAT), 2)), HALF, 1),), "fraction")
        many = product(*[poly(-k, 0, 1) for k in range(2, 22)])
        self.gives(number_error, (root(many, Fraction(7, 5), Fraction(3, 2)),), None)
        self.gives(number_error, (root(many, Fraction(19, 10), Fraction(21, 10)),), "fraction")
        self.gives(number_error, (root(many, 1, Fraction(9, 5)),), "places")


class TestOrder(Case):

    def test_all_against_all(self):
        numbers = ROOTS + FRACTIONS
        for one, other in itertools.product(numbers, repeat=2):
            a, b = worth(one), worth(other)
            self.gives(order_of, (one, other), 0 if one == other else (a > b) - (a < b))

    def test_alike_numbers(self):
        tellings = [root(TWO, 1, 2), root(TWO, Fraction(7, 5), Fraction(17, 12)), root(product(TWO, THREE), 0, Fraction(3, 2)),
                    root(product(TWO, TWO), 0, 9), root(product(TWO, TWO, TWO, poly(1, 0, 1)), 0, 9),
                    root(product(TWO, poly_of_places(5, 6)), 1, 4), root(poly(-4, 0, 2), 1, 2), root(poly(4, 0, -2), -1, 2),
                    root(product(poly(-2, 0, 0, 1), TWO), Fraction(4, 3), 3), root(poly(-4, 0, 0, 0, 1), 0, 2),
                    root(poly(Fraction(-2, 7), 0, Fraction(1, 7)), -1, GREAT), root(poly_power(TWO, 6), 1, 2),
                    root(poly_power(product(TWO, THREE), 3), 1, Fraction(17, 10))]
        for one, other in itertools.product(tellings, repeat=2):
            self.assertIsNone(number_error(one))
            self.gives(order_of, (one, other), 0)
        for one in tellings:
            for other, sign in ((root(TWO, -2, 0), 1), (root(THREE, 1, 2), -1), ((141, 100), 1), ((71, 50), -1),
                                (root(poly_power(THREE, 2), 1, 2), -1), (root(product(TWO, THREE), Fraction(3, 2), 2), -1)):
                self.gives(order_of, (one, other), sign)
                self.gives(order_of, (other, one), -sign)

    def test_very_near_ones(self):
        place = worth(root(TWO, 1, 2))
        for tiny in (10 ** 10, 10 ** 20, 10 ** 38):
            top = int(place * tiny)
            self.gives(order_of, (root(TWO, 1, 2), pair(Fraction(top, tiny))), 1)
            self.gives(order_of, (root(TWO, 1, 2), pair(Fraction(top + 1, tiny))), -1)
            self.gives(order_of, (root(poly_power(TWO, 2), 1, 2), pair(Fraction(top, tiny))), 1)
            self.gives(order_of, (root(TWO, Fraction(top, tiny), 2), (3, 2)), -1)
            beside = root(poly(-2 - Fraction(1, tiny), 0, 1), 1, 2)
            self.gives(order_of, (root(TWO, 1, 2), beside), -1)
            self.gives(order_of, (beside, root(TWO, 1, 2)), 1)
            both = product(TWO, poly(-2 - Fraction(1, tiny), 0, 1))
            low, high = roots_of(both, (1, 1), (2, 1))
            self.gives(order_of, (low, high), -1)
            self.gives(order_of, (low, root(TWO, 1, 2)), 0)
            self.gives(order_of, (high, beside), 0)
            self.gives(order_of, (high, root(TWO, 1, 2)), 1)
        # x ** 12 = 2 * (10 ** 19 * x - 1) ** 2 at two places, less than 1 / 10 ** 130 off one another.
        tight = poly_plus(poly(*[0] * 12, 1), poly_times(poly(-2), poly_power(poly(-1, 10 ** 19), 2)))
        low, high = roots_of(tight, (0, 1), (1, 1))
        self.gives(order_of, (low, high), -1)
        self.gives(order_of, (low, (1, 10 ** 19)), -1)
        self.gives(order_of, (high, (1, 10 ** 19)), 1)
        self.gives(order_of, (high, low), 1)

    def test_ends_beside_the_other_place(self):
        """Stretches may touch, overlap, or lie within one another."""
        for one in (root(TWO, 1, 2), root(TWO, Fraction(7, 5), Fraction(3, 2)), root(TWO, 1, Fraction(3, 2))):
            for other in (root(THREE, Fraction(3, 2), 2), root(THREE, 0, 2), root(THREE, Fraction(17, 12), 9),
                          root(product(THREE, TWO), Fraction(3, 2), 2), root(product(THREE, TWO), Fraction(17, 12), 5)):
                self.gives(order_of, (one, other), -1)
                self.gives(order_of, (other, one), 1)


class TestNear(Case):

    def test_near(self):
        for number in FRACTIONS:
            for width in ((1, 1), (1, GREAT), (GREAT, 1)):
                found = self.told(near, number, width)
                self.assertTrue(is_pair(found))
                self.assertLess(abs(value(found) - value(number)), value(width))
        for number in ROOTS + [root(poly_power(TWO, 4), 1, 2), root(product(TWO, THREE, THREE), Fraction(3, 2), 3)]:
            for width in ((1, 1), (1, 2), (1, 100), (1, GREAT), (3, GREAT), (GREAT, 1), (1, 10 ** 39)):
                found = self.told(near, number, width)
                self.assertTrue(is_pair(found))
                low, high = value(found) - value(width), value(found) + value(width)
                self.assertEqual(order_of(number, pair(low)), 1)
                self.assertEqual(order_of(number, pair(high)), -1)

    def test_near_by_signs(self):
        for number in ROOTS:
            found = value(near(number, (1, 10 ** 39)))
            self.assertLess(abs(found - worth(number)), Fraction(11, 10 ** 40))


class TestRootsOf(Case):

    def check(self, p, low, high, expected):
        """The places are those expected: fractions as they are, roots by order_of."""
        found = self.told(roots_of, p, pair(low), pair(high))
        self.assertIs(type(found), tuple)
        self.assertEqual(len(found), len(expected))
        for number, other in zip(found, expected):
            self.assertIsNone(number_error(number))
            if other[0] == "root":
                self.assertEqual(number[0], "root")
                self.assertEqual(order_of(number, other), 0)
            else:
                self.assertEqual(number, other)
        for one, other in zip(found, found[1:]):
            self.assertEqual(order_of(one, other), -1)

    def test_places_of_known_factors(self):
        draw = Draw(210)
        known = ROOTS + [root(THREE, -2, 0), root(poly(-1, 0, 2), -1, 0)]
        for _ in range(60):
            factors, numbers = [], []
            for _ in range(draw.lot.randint(0, 4)):
                place = draw.small()
                factors.append(poly_of_places(*[place] * draw.lot.randint(1, 2)))
                numbers.append(pair(place))
            for p in draw.lot.sample([TWO, THREE, poly(-2, 0, 0, 1), poly(-1, -1, 1), poly(-1, 0, 2), poly(-7, 0, 5)], draw.lot.randint(0, 2)):
                factors.append(p)
                numbers += [number for number in known if number[1] == p]
            p = poly_times(product(*factors), poly(draw.lot.choice([1, -1, THIRD, 5])))
            if draw.lot.random() < 0.3:
                p = poly_times(p, poly(1, 1, 1))
            if len(p) > 13:
                continue
            numbers = sorted(set(numbers), key=worth)
            for low, high in ((-9, 9), (draw.small(), draw.small()), (0, 2), (0, 0)):
                low, high = min(low, high), max(low, high)
                self.check(p, low, high, [number for number in numbers if low <= worth(number) <= high])

    def test_places_at_the_ends(self):
        p = poly_of_places(0, THIRD, 1, 1)
        numbers = [(0, 1), (1, 3), (1, 1)]
        for low, high in itertools.combinations_with_replacement([Fraction(-1), Fraction(0), QUARTER, THIRD, HALF, Fraction(1), Fraction(2)], 2):
            self.check(p, low, high, [f for f in numbers if low <= value(f) <= high])
            self.check(poly_times(p, TWO), low, high, [f for f in numbers if low <= value(f) <= high]
                       + ([root(TWO, 1, 2)] if low < high == 2 else []))

    def test_no_places(self):
        for p in (poly(1), poly(-3), poly(1, 0, 1), poly_power(poly(1, 1, 1), 6), poly(GREAT)):
            for low, high in ((-9, 9), (0, 0), (0, THIRD), (-GREAT, GREAT)):
                self.check(p, low, high, [])

    def test_fractions_as_great_as_the_factors_allow(self):
        for count in list(range(1, 130)) + [3 ** 8 // 2 - 1, 3 ** 16 // 2 - 1, 3 ** 32 // 2 - 1, 3 ** 64 // 2 - 1]:
            for place in (Fraction(count), Fraction(-count), Fraction(1, count), Fraction(-1, count), Fraction(count, count + 1)):
                expected = (pair(place),)
                self.assertEqual(roots_of(poly(-place, 1), (-GREAT, 1), (GREAT, 1)), expected)
                self.assertEqual(roots_of(poly_times(poly(-place, 1), poly(1, 1, 1)), (-GREAT, 1), (GREAT, 1)), expected)

    def test_low_equal_to_high(self):
        for p, place, expected in ((poly(-1, 2), HALF, [(1, 2)]), (poly(-1, 2), THIRD, []), (poly(0, 1), 0, [(0, 1)]),
                                   (poly_of_places(1, 1, 1), 1, [(1, 1)]), (TWO, 1, []), (poly(7), 0, [])):
            self.check(p, place, place, expected)

    def test_several_times_over(self):
        self.check(poly_power(TWO, 6), 0, 2, [root(TWO, 1, 2)])
        self.check(poly_power(TWO, 6), -2, 2, [root(TWO, -2, 0), root(TWO, 1, 2)])
        self.check(poly_power(poly_of_places(THIRD), 12), 0, 2, [(1, 3)])
        self.check(product(poly_power(TWO, 2), poly_power(THREE, 3), poly_power(poly_of_places(Fraction(3, 2)), 2)), 0, 2,
                   [root(TWO, 1, 2), (3, 2), root(THREE, 1, 2)])

    def test_fractions_beside_roots(self):
        for top, bottom in ((7, 5), (17, 12), (577, 408), (665857, 470832), (886731088897, 627013566048)):
            place = Fraction(top, bottom)
            p = product(TWO, poly_of_places(place))
            expected = sorted([pair(place), root(TWO, 1, 2)], key=worth)
            self.check(p, 1, 2, expected)
            self.check(p, place, 2, [number for number in expected if worth(number) >= place])
            self.check(p, 1, place, [number for number in expected if worth(number) <= place])

    def test_very_near_ones(self):
        tiny = Fraction(1, 10 ** 38)
        self.check(poly_of_places(THIRD, THIRD + tiny), 0, 1, [pair(THIRD), pair(THIRD + tiny)])
        p = product(TWO, poly(-2 - tiny, 0, 1))
        self.check(p, 0, 2, [root(TWO, 1, 2), root(poly(-2 - tiny, 0, 1), 1, 2)])
        self.check(poly_plus(poly_power(TWO, 2), poly(tiny)), 0, 2, [])
        tight = poly_plus(poly(*[0] * 12, 1), poly_times(poly(-2), poly_power(poly(-1, 10 ** 19), 2)))
        self.assertEqual(len(self.told(roots_of, tight, (0, 1), (1, 1))), 2)
        self.assertEqual(len(roots_of(tight, (0, 1), (1, 10 ** 19))), 1)

    def test_signs_between(self):
        draw = Draw(211)
        for _ in range(60):
            p = draw.poly(8)
            if p == ():
                continue
            found = roots_of(p, (-20, 1), (20, 1))
            self.assertEqual(len([number for number in found if number not in ((-20, 1), (20, 1))]),
                             places_between(p, Fraction(-20), Fraction(20)) if self.is_nowhere_0(p) else len(found))
            marks = [Fraction(-20)] + [worth(number) for number in found] + [Fraction(20)]
            for low, high in zip(marks, marks[1:]):
                signs = {poly_value(p, low + (high - low) * Fraction(k, 8)) > 0 for k in range(1, 8)}
                self.assertLess(len(signs), 2)

    def is_nowhere_0(self, p):
        return poly_value(p, -20) != 0 and poly_value(p, 20) != 0


PLAIN = even((0, 1), (1, 1))
SPREADS = [
    PLAIN, lump((3, 1)), tent((0, 1), (1, 1), (2, 1)), shared([(0, 1), (1, 1)], [(0, 1, poly(2))]),
    shared([(0, 1), (1, 2), (5, 3)], []), shared([(Fraction(3, 2), 2)], [(0, 1, poly(1)), (2, 3, poly(0, 1))]),
    shared([], [(-1, 1, poly(0, 0, 1)), (1, 2, poly(1))]), shared([(THIRD, 1)], [(0, 1, poly(1))]),
    shared([(-7, 1), (7, 1)], [(-1, 0, poly(0, 0, 1)), (3, 4, poly(1))]),
    shared([], [(0, 2, poly_power(poly(-1, 1), 2))]), joined_often(PLAIN, 4), joined_often(tent((0, 1), (1, 1), (2, 1)), 3),
]
SHARES = [Fraction(1, 10 ** 12), Fraction(1, 7), QUARTER, THIRD, Fraction(2, 5), HALF, Fraction(2, 3), Fraction(3, 4),
          Fraction(7, 8), Fraction(GREAT - 1, GREAT), Fraction(1)]


class TestQuantile(Case):

    def check(self, spread, q):
        place = self.told(quantile, spread, pair(q))
        self.assertIsNone(number_error(place))
        if place[0] != "root":
            x = value(place)
            self.assertGreaterEqual(chance_up_to(spread, x), q)
            for below in (x - Fraction(1, 10 ** 50), x - 1):
                self.assertLess(chance_up_to(spread, below), q)
        else:
            x = value(near(place, (1, 10 ** 30)))
            self.assertLess(chance_up_to(spread, x - Fraction(1, 10 ** 30)), q)
            self.assertGreaterEqual(chance_up_to(spread, x + Fraction(1, 10 ** 30)), q)
        for t in probes(spread_places(spread))[::2]:
            self.assertEqual(order_of(place, pair(t)) <= 0, chance_up_to(spread, t) >= q)
        return place

    def test_quantiles(self):
        draw = Draw(220)
        for spread in SPREADS + [draw.spread() for _ in range(10)]:
            places = [self.check(spread, q) for q in SHARES]
            for one, other in zip(places, places[1:]):
                self.assertLessEqual(order_of(one, other), 0)
            ups = {chance_up_to(spread, x) for x in spread_places(spread)} - {0}
            for q in sorted(ups)[:5]:
                self.check(spread, q)

    def test_chances_that_do_not_fit(self):
        for spread in SPREADS:
            for q in ((0, 1), (-1, 1), (-1, GREAT), (GREAT, GREAT - 1), (2, 1), (3, 2)):
                self.fails(quantile, (spread, q), "Unfit()")

    def test_lumps_and_gaps(self):
        coins = shared([(0, 1), (1, 2), (5, 3)], [])
        for q, place in ((Fraction(1, 6), 0), (Fraction(1, 7), 0), (Fraction(1, 5), 1), (HALF, 1), (Fraction(51, 100), 5), (1, 5)):
            self.gives(quantile, (coins, pair(q)), pair(place))
        gaps = shared([(Fraction(3, 2), 2)], [(0, 1, poly(1)), (2, 3, poly(1))])
        for q, place in ((QUARTER, 1), (Fraction(26, 100), Fraction(3, 2)), (Fraction(3, 4), Fraction(3, 2)), (Fraction(7, 8), Fraction(5, 2)), (1, 3)):
            self.gives(quantile, (gaps, pair(q)), pair(place))
        inside = shared([(HALF, 1)], [(0, 1, poly(1))])
        for q, place in ((QUARTER, HALF), (HALF, HALF), (Fraction(3, 4), HALF), (Fraction(1, 5), Fraction(2, 5)), (Fraction(4, 5), Fraction(3, 5))):
            self.gives(quantile, (inside, pair(q)), pair(place))

    def test_knots(self):
        self.gives(quantile, (tent((0, 1), (1, 1), (2, 1)), (1, 2)), (1, 1))
        self.gives(quantile, (joined_often(PLAIN, 4), (1, 2)), (2, 1))
        self.gives(quantile, (joined_often(PLAIN, 4), (1, 24)), (1, 1))
        self.gives(quantile, (joined_often(PLAIN, 4), (1, 1)), (4, 1))
        # Where it rises from one knot on, it has been as high at the end of what is ahead of the gap.
        two = mixed((((1, 2), PLAIN), ((1, 2), moved(PLAIN, (5, 1)))))
        self.gives(quantile, (two, (1, 2)), (1, 1))
        flat = shared([], [(0, 2, poly_power(poly(-1, 1), 2))])
        self.gives(quantile, (flat, (1, 2)), (1, 1))

    def test_places_that_are_no_fractions(self):
        square = kth((PLAIN, PLAIN), 1)
        for q, p in ((HALF, poly(-1, 0, 2)), (THIRD, poly(-1, 0, 3))):
            self.assertEqual(order_of(self.check(square, q), root(p, 0, 1)), 0)
        self.gives(quantile, (square, (1, 4)), (1, 2))
        cube = kth((PLAIN,) * 3, 2)
        self.assertEqual(order_of(self.check(cube, HALF), root(poly(-1, 0, 0, 2), 0, 1)), 0)
        self.gives(quantile, (cube, (8, 27)), (2, 3))
        self.gives(quantile, (joined(square, lump((-3, 1))), (4, 9)), (-7, 3))


if __name__ == "__main__":
    unittest.main()
