"""Orders of spreads: [E3] to [E6], and [A2] (e)."""

import itertools
import unittest
from fractions import Fraction

from tests.oracle import (Draw, chance_up_to, is_pair, is_sign_paper, pair, poly, poly_integral, poly_plus,
                          poly_times, probes, shared, spread_mean, spread_places, value)
from tests.support import ODD_VALUES, Case, run_examples
from unsureworks.errors import BelowAt
from unsureworks.making import grown, joined, joined_often, kth, mixed, moved
from unsureworks.orders import (close_holds, close_paper, later_at, never_later_holds, never_later_paper,
                                never_worse_holds, never_worse_paper, worse_at)
from unsureworks.spreads import even, lump, tent

EXAMPLES = """
>>> one, x, none = ((1, 1),), ((0, 1), (1, 1)), ()
>>> from unsureworks.orders import close_holds, close_paper, later_at, never_later_holds, never_later_paper, never_worse_holds, never_worse_paper, worse_at
>>> from unsureworks.spreads import even, lump
>>> short, long = even((0, 1), (1, 1)), even((0, 1), (2, 1))
>>> half_x, rest = ((0, 1), (1, 2)), ((1, 1), (-1, 2))
>>> paper = ((((0, 1), (1, 1), one, half_x),), (((1, 1), (2, 1), one, rest),))
>>> later_at(short, long), never_later_holds(short, long, paper), never_later_holds(long, short, paper)
(None, True, False)
>>> never_later_holds(short, long, never_later_paper(short, long)), never_later_paper(lump((3, 1)), lump((3, 1)))
(True, ())
>>> sure = lump((1, 1))
>>> quarter = ((1, 4),)
>>> worse_at(sure, long), never_worse_holds(sure, long, ((((0, 1), (1, 1), x, quarter),), (((1, 1), (2, 1), ((-2, 1), (1, 1)), quarter),)))
(None, True)
>>> never_worse_holds(sure, long, never_worse_paper(sure, long)), later_at(sure, long) is None
(True, False)
>>> ahead = ((((0, 1), (1, 1), one, ((1, 2), (-1, 2))),), (((0, 1), (1, 1), one, ((1, 2), (1, 2))),))
>>> behind = ((((1, 1), (2, 1), one, ((-1, 2), (1, 2))),), (((1, 1), (2, 1), one, ((3, 2), (-1, 2))),))
>>> close_holds(short, long, (1, 2), (ahead, behind)), close_holds(short, long, (1, 2), (behind, ahead))
(True, False)
>>> close_holds(short, long, (1, 2), close_paper(short, long, (1, 2))), close_holds(short, long, (1, 4), close_paper(short, long, (1, 2)))
(True, False)
>>> close_paper(lump((3, 1)), lump((3, 1)), (0, 1))
()
"""

HALF, THIRD, QUARTER = Fraction(1, 2), Fraction(1, 3), Fraction(1, 4)
GREAT = 10 ** 40 - 1
ONE = poly(1)


PLAIN, LONG = even((0, 1), (1, 1)), even((0, 1), (2, 1))
COIN = shared([(0, 1), (1, 1)], [])
SPREADS = [
    PLAIN, LONG, lump((1, 1)), lump((0, 1)), COIN, tent((0, 1), (1, 1), (2, 1)), shared([(0, 1), (1, 1)], [(0, 1, poly(2))]),
    shared([(Fraction(3, 2), 2)], [(0, 1, poly(1)), (2, 3, poly(0, 1))]), shared([], [(-1, 1, poly(0, 0, 1)), (1, 2, poly(1))]),
    shared([(THIRD, 1)], [(0, 1, poly(1))]), joined_often(PLAIN, 3), kth((PLAIN, PLAIN), 1), kth((PLAIN, PLAIN), 0),
    even((5, 1), (7, 1)), shared([(-2, 1), (5, 1)], [(0, 1, poly(1, 1))]), shared([(HALF, 1)], [(0, 2, poly(1, 0, 1))]),
]


def heap_of(p):
    """The integral of a polynomial from 0."""
    return poly(*([0] + [value(f) / (k + 1) for k, f in enumerate(p)]))


def heaped_up(spread, x):
    """The polynomial of the chance to be at most t, for t from a place on that stands at the Fraction x."""
    total = poly(sum((value(weight) for place, weight in spread[0] if value(place) <= x), Fraction(0)))
    for low, high, p in spread[1]:
        if value(high) <= x:
            total = poly_plus(total, poly(poly_integral(p, value(low), value(high))))
        elif value(low) <= x:
            rising = heap_of(p)
            total = poly_plus(total, poly_plus(rising, poly(-sum(value(f) * value(low) ** k for k, f in enumerate(rising)))))
    return total


def differences(one, other):
    """For each stretch its ends and what one has heaped up less what other has."""
    places = spread_places(one, other)
    return [(low, high, poly_plus(heaped_up(one, low), poly_times(heaped_up(other, low), poly(-1))))
            for low, high in zip(places, places[1:])]


def heaped_chance(spread, x):
    """The integral up to x of the chance to be at most t."""
    total = sum((value(weight) * (x - value(place)) for place, weight in spread[0] if value(place) < x), Fraction(0))
    for low, high, p in spread[1]:
        # The integral over u of p times what lies between u and x.
        high = min(value(high), x)
        if value(low) < high:
            total += poly_integral(poly_times(p, poly(x, -1)), value(low), high)
    return total


def heaped_differences(one, other):
    """For each stretch its ends and what other has heaped up twice less what one has."""
    found = []
    for low, high, p in differences(other, one):
        rising = heap_of(p)
        start = heaped_chance(other, low) - heaped_chance(one, low)
        found.append((low, high, poly_plus(rising, poly(start - sum(value(f) * low ** k for k, f in enumerate(rising))))))
    return found


def is_paper(stretches, paper):
    """Whether something is a tuple of a sign paper for each stretch."""
    return (type(paper) is tuple and len(paper) == len(stretches)
            and all(is_sign_paper(p, pair(low), pair(high), part) for (low, high, p), part in zip(stretches, paper)))


class OrderCase(Case):

    def raised(self, work, *args):
        """The place of BelowAt that a call raises, whether by place or by name."""
        with self.assertRaises(BelowAt) as caught:
            work(*args)
        with self.assertRaises(BelowAt) as again:
            work(*args)
        place = caught.exception.place
        self.assertTrue(is_pair(place))
        self.assertEqual(place, again.exception.place)
        return value(place)

    def pairs(self, seed, many):
        draw = Draw(seed)
        drawn = [(draw.spread(), draw.spread()) for _ in range(many)]
        return list(itertools.product(SPREADS, repeat=2)) + drawn + [(b, a) for a, b in drawn]


class TestExamples(Case):

    def test_examples(self):
        run_examples(self, EXAMPLES)


class TestNeverLater(OrderCase):

    def check(self, one, other):
        place = self.told(later_at, one, other)
        if place is None:
            paper = self.told(never_later_paper, one, other)
            self.assertTrue(is_paper(differences(one, other), paper))
            self.gives(never_later_holds, (one, other, paper), True)
            for x in probes(spread_places(one, other))[::3]:
                self.assertGreaterEqual(chance_up_to(one, x), chance_up_to(other, x))
            self.assertLessEqual(spread_mean(one), spread_mean(other))
            self.assertEqual(worse_at(one, other) is None, one == other)
            return paper
        self.assertTrue(is_pair(place))
        for x in (value(place), self.raised(never_later_paper, one, other)):
            self.assertLess(chance_up_to(one, x), chance_up_to(other, x))
        return None

    def test_all(self):
        told = [self.check(one, other) is not None for one, other in self.pairs(400, 25)]
        self.assertGreater(min(told.count(True), told.count(False)), 60)

    def test_a_spread_and_itself(self):
        for spread in SPREADS:
            self.assertEqual(len(self.check(spread, spread)), len(spread_places(spread)) - 1)
            self.gives(later_at, (spread, spread), None)
        self.gives(never_later_paper, (lump((1, 3)), lump((1, 3))), ())
        self.gives(never_later_holds, (lump((1, 3)), lump((1, 3)), ()), True)
        self.gives(never_later_holds, (lump((1, 3)), lump((1, 3)), ((),)), False)
        self.gives(never_later_holds, (lump((1, 3)), lump((2, 3)), ()), False)

    def test_spreads_apart(self):
        low, high = PLAIN, even((3, 1), (4, 1))
        self.check(low, high)
        self.gives(later_at, (low, high), None)
        self.assertIsNotNone(later_at(high, low))
        self.check(high, low)
        self.check(lump((0, 1)), lump((1, GREAT)))
        self.check(lump((1, GREAT)), lump((0, 1)))

    def test_narrow_stretches(self):
        for tiny in (Fraction(1, 10 ** 6), Fraction(1, 10 ** 30)):
            for place in (0, THIRD, HALF, 1):
                one = shared([(place, 1)], [(0, 1, poly(1))])
                other = shared([(place + tiny, 1)], [(0, 1, poly(1))])
                self.gives(later_at, (one, other), None)
                self.check(one, other)
                found = value(later_at(other, one))
                self.assertTrue(place <= found < place + tiny)
                self.check(other, one)
            bump = shared([], [(0, THIRD, poly(1)), (THIRD, THIRD + tiny, poly(1, -1)), (THIRD + tiny, 1, poly(1))])
            self.check(bump, PLAIN)
            self.check(PLAIN, bump)

    def test_touching_places(self):
        """The difference is 0 at a place within a stretch, at a fraction or at none."""
        # With t ** 2 * (3 - 2 * t) heaped up it meets t at 1/2, and crosses it.
        bow = shared([], [(0, 1, poly(0, 1, -1))])
        self.check(bow, PLAIN)
        self.check(PLAIN, bow)
        for spot in (poly(-1, 2), poly(-1, 0, 2)):
            touch = poly_times(poly_times(spot, spot), poly(0, 1, -1))
            slope = poly(*[k * value(f) for k, f in enumerate(touch)][1:])
            small = Fraction(1, 20)
            one = ((), ((pair(0), pair(1), poly_plus(ONE, poly_times(slope, poly(small)))),))
            self.assertIsNotNone(self.check(one, PLAIN))
            self.assertIsNone(self.check(PLAIN, one))

    def test_orders_go_over(self):
        for one, other, third in itertools.product(SPREADS[:9], repeat=3):
            if later_at(one, other) is None and later_at(other, third) is None:
                self.assertIsNone(later_at(one, third))

    def test_moved_and_grown(self):
        for one, other in itertools.combinations(SPREADS[:10], 2):
            expected = later_at(one, other) is None
            worse = worse_at(one, other) is None
            for f in ((5, 3), (-2, 1)):
                both = moved(one, f), moved(other, f)
                self.assertEqual((later_at(*both) is None, worse_at(*both) is None), (expected, worse))
            both = grown(one, (7, 2)), grown(other, (7, 2))
            self.assertEqual((later_at(*both) is None, worse_at(*both) is None), (expected, worse))

    def test_papers_of_other_spreads(self):
        papers = {}
        for one, other in itertools.permutations(SPREADS[:9], 2):
            if later_at(one, other) is None:
                papers[one, other] = never_later_paper(one, other)
        for (one, other), paper in papers.items():
            self.gives(never_later_holds, (other, one, paper), False)
            for further in papers.values():
                self.gives(never_later_holds, (one, other, further), is_paper(differences(one, other), further))

    def test_changed_papers(self):
        one, other = PLAIN, shared([(1, 1)], [(0, 3, poly(1))])
        paper = never_later_paper(one, other)
        self.assertEqual(len(paper), 2)
        for changed in (paper[::-1], paper[:1], paper[1:], paper + paper[1:], paper + ((),), (), ((),), (paper[0], ()), list(paper),
                        (paper[0], list(paper[1])), (paper[0], None), (paper[0], paper[1] + paper[1]), (paper[0][:-1], paper[1]),
                        (None, None), (paper,), paper[0], (paper[0], paper[0])):
            self.gives(never_later_holds, (one, other, changed), False)
        self.gives(never_later_holds, (one, other, paper), True)
        for odd in ODD_VALUES:
            self.gives(never_later_holds, (one, other, odd), False)
            self.gives(never_later_holds, (one, other, (odd, paper[1])), False)
            self.gives(never_later_holds, (one, other, (paper[0], odd)), False)
            self.gives(never_later_holds, (one, other, (paper[0], (odd,))), False)

    def test_high_degrees(self):
        long = joined_often(PLAIN, 12)
        self.check(long, moved(long, (1, 1000)))
        self.check(moved(long, (1, 1000)), long)
        self.check(long, joined(joined_often(PLAIN, 11), lump((1, 2))))
        self.check(kth((long, PLAIN, PLAIN), 0), PLAIN)


class TestNeverWorse(OrderCase):

    def check(self, one, other):
        place = self.told(worse_at, one, other)
        if place is None:
            paper = self.told(never_worse_paper, one, other)
            self.assertTrue(is_paper(heaped_differences(one, other), paper))
            self.gives(never_worse_holds, (one, other, paper), True)
            for x in probes(spread_places(one, other))[::3]:
                self.assertLessEqual(heaped_chance(one, x), heaped_chance(other, x))
            self.assertGreaterEqual(spread_mean(one), spread_mean(other))
            return paper
        self.assertTrue(is_pair(place))
        for x in (value(place), self.raised(never_worse_paper, one, other)):
            self.assertGreater(heaped_chance(one, x), heaped_chance(other, x))
        return None

    def test_all(self):
        told = [self.check(one, other) is not None for one, other in self.pairs(410, 25)]
        self.assertGreater(min(told.count(True), told.count(False)), 60)

    def test_a_spread_and_itself(self):
        for spread in SPREADS:
            self.assertEqual(len(self.check(spread, spread)), len(spread_places(spread)) - 1)
        self.gives(never_worse_paper, (lump((1, 3)), lump((1, 3))), ())
        self.gives(never_worse_holds, (lump((1, 3)), lump((1, 3)), ()), True)
        self.gives(never_worse_holds, (lump((1, 3)), lump((2, 3)), ()), False)

    def test_what_is_surer_is_not_worse(self):
        for spread in SPREADS:
            sure = lump(pair(spread_mean(spread)))
            self.assertIsNotNone(self.check(sure, spread))
            self.assertEqual(self.check(spread, sure) is None, spread != sure)
            doubled = mixed((((1, 2), spread), ((1, 2), moved(spread, (1, 7)))))
            self.assertIsNotNone(self.check(moved(spread, (1, 14)), doubled))

    def test_later_ones_are_not_worse(self):
        for one, other in itertools.product(SPREADS, repeat=2):
            if later_at(one, other) is None:
                self.gives(worse_at, (other, one), None)

    def test_narrow_stretches(self):
        for tiny in (Fraction(1, 10 ** 6), Fraction(1, 10 ** 20)):
            spread = shared([(HALF - tiny, 1), (HALF + tiny, 1)], [(0, 1, poly(2))])
            middle = shared([(HALF, 2)], [(0, 1, poly(2))])
            self.assertIsNotNone(self.check(middle, spread))
            self.assertIsNone(self.check(spread, middle))
            found = value(worse_at(spread, middle))
            self.assertTrue(HALF - tiny < found < HALF + tiny)

    def test_equal_means_touch_at_the_end(self):
        """From the last knot on the difference is that of the means; it may be 0 there."""
        self.assertIsNotNone(self.check(lump((1, 1)), LONG))
        self.assertIsNotNone(self.check(lump((2, 1)), LONG))
        self.assertIsNone(self.check(lump((99, 100)), LONG))
        self.assertIsNone(self.check(LONG, lump((1, 1))))

    def test_orders_go_over(self):
        for one, other, third in itertools.product(SPREADS[:9], repeat=3):
            if worse_at(one, other) is None and worse_at(other, third) is None:
                self.assertIsNone(worse_at(one, third))

    def test_bent_functions(self):
        """One that is nowhere worse has the greater mean of each function that rises to a place and stays there."""
        for one, other in itertools.permutations(SPREADS, 2):
            if worse_at(one, other) is None:
                for place in (Fraction(0), HALF, Fraction(1), Fraction(5)):
                    means = [place - heaped_chance(spread, place) for spread in (one, other)]
                    self.assertGreaterEqual(means[0], means[1])

    def test_papers_of_other_spreads(self):
        papers = {}
        for one, other in itertools.permutations(SPREADS[:9], 2):
            if worse_at(one, other) is None:
                papers[one, other] = never_worse_paper(one, other)
        for (one, other), paper in papers.items():
            self.gives(never_worse_holds, (other, one, paper), False)
            for further in papers.values():
                self.gives(never_worse_holds, (one, other, further), is_paper(heaped_differences(one, other), further))
        # A paper that one is never later than other is none of this kind.
        self.gives(never_worse_holds, (LONG, PLAIN, never_later_paper(PLAIN, LONG)), False)

    def test_changed_papers(self):
        one, other = shared([(1, 1)], [(0, 3, poly(1))]), PLAIN
        paper = never_worse_paper(one, other)
        self.assertEqual(len(paper), 2)
        for changed in (paper[::-1], paper[:1], paper[1:], paper + paper[1:], paper + ((),), (), ((),), (paper[0], ()), list(paper),
                        (paper[0], list(paper[1])), (paper[0], None), (None, None), (paper,), paper[0], (paper[1], paper[1])):
            self.gives(never_worse_holds, (one, other, changed), False)
        for odd in ODD_VALUES:
            self.gives(never_worse_holds, (one, other, odd), False)
            self.gives(never_worse_holds, (one, other, (odd, paper[1])), False)
            self.gives(never_worse_holds, (one, other, (paper[0], (odd,))), False)


class TestClose(OrderCase):

    def stretches(self, one, other, gap):
        room = poly(gap)
        return [((low, high, poly_plus(room, poly_times(p, poly(-1)))), (low, high, poly_plus(room, p)))
                for low, high, p in differences(one, other)]

    def holds(self, one, other, gap, paper):
        stretches = self.stretches(one, other, gap)
        return type(paper) is tuple and len(paper) == len(stretches) and all(is_paper(both, part) for both, part in zip(stretches, paper))

    def close(self, one, other, gap):
        paper = self.told(close_paper, one, other, pair(gap))
        self.assertTrue(self.holds(one, other, Fraction(gap), paper))
        self.gives(close_holds, (one, other, pair(gap), paper), True)
        for x in probes(spread_places(one, other))[::3]:
            self.assertLessEqual(abs(chance_up_to(one, x) - chance_up_to(other, x)), gap)
        return paper

    def open(self, one, other, gap):
        x = self.raised(close_paper, one, other, pair(gap))
        self.assertGreater(abs(chance_up_to(one, x) - chance_up_to(other, x)), gap)

    def test_gaps(self):
        tiny = Fraction(1, 10 ** 20)
        for one, other, gap in ((PLAIN, LONG, HALF), (PLAIN, lump((1, 2)), HALF), (PLAIN, lump((0, 1)), 1), (COIN, lump((0, 1)), HALF),
                                (lump((0, 1)), lump((1, 1)), 1), (PLAIN, moved(PLAIN, (1, 3)), THIRD), (PLAIN, COIN, HALF),
                                (PLAIN, even((3, 1), (4, 1)), 1), (PLAIN, kth((PLAIN, PLAIN), 1), QUARTER),
                                (PLAIN, shared([(THIRD, 1)], [(0, 1, poly(1))]), THIRD), (LONG, tent((0, 1), (1, 1), (2, 1)), Fraction(1, 8))):
            for both in ((one, other), (other, one)):
                self.close(*both, gap)
                self.close(*both, gap + tiny)
                self.close(*both, 1)
                self.close(*both, 5)
                self.open(*both, gap - tiny)
                self.open(*both, gap / 2 if isinstance(gap, Fraction) else HALF)
                self.open(*both, 0)

    def test_gap_0(self):
        for spread in SPREADS:
            self.close(spread, spread, 0)
            if len(spread_places(spread)) == 1:
                self.gives(close_paper, (spread, spread, (0, 1)), ())
                self.gives(close_paper, (spread, spread, (1, 1)), ())
                self.gives(close_holds, (spread, spread, (0, 1), ()), True)
        for one, other in itertools.permutations(SPREADS, 2):
            self.open(one, other, 0)
            self.close(one, other, 1)

    def test_places_that_are_no_fractions(self):
        # The difference is t - t ** 3, greatest at the root of 1/3, where it is above 3849/10000.
        cube = kth((PLAIN,) * 3, 2)
        self.close(PLAIN, cube, Fraction(385, 1000))
        self.open(PLAIN, cube, Fraction(3849, 10000))
        self.open(cube, PLAIN, Fraction(3849, 10000))

    def test_drawn_ones(self):
        draw = Draw(420)
        for _ in range(20):
            one, other = draw.spread(), draw.spread()
            gap = max(abs(chance_up_to(one, x) - chance_up_to(other, x)) for x in probes(spread_places(one, other)))
            if gap > 0:
                self.open(one, other, gap * Fraction(9, 10))
            try:
                close_paper(one, other, pair(gap))
            except BelowAt:
                self.open(one, other, gap)
            else:
                self.close(one, other, gap)
            self.close(one, other, 1)

    def test_other_papers(self):
        paper = close_paper(PLAIN, LONG, (1, 2))
        self.gives(close_holds, (PLAIN, LONG, (1, 2), paper), True)
        self.gives(close_holds, (LONG, PLAIN, (1, 2), paper), False)
        self.gives(close_holds, (LONG, PLAIN, (1, 2), tuple(both[::-1] for both in paper)), True)
        self.gives(close_holds, (PLAIN, LONG, (1, 1), paper), False)
        self.gives(close_holds, (PLAIN, LONG, (1, 4), paper), False)
        self.gives(close_holds, (PLAIN, moved(LONG, (1, 1)), (1, 2), paper), False)
        for changed in (paper[::-1], paper[:1], paper + paper[1:], (), list(paper), (list(paper[0]), paper[1]), (paper[0][::-1], paper[1]),
                        (paper[0][:1], paper[1]), (paper[0] + paper[0][:1], paper[1]), (paper[0], ()), (paper[0], None), None,
                        (paper[0], (paper[1][0], ())), (paper[0], (paper[1][0], list(paper[1][1]))), paper[0] + paper[1], ((), ())):
            self.gives(close_holds, (PLAIN, LONG, (1, 2), changed), False)
        for odd in ODD_VALUES:
            self.gives(close_holds, (PLAIN, LONG, (1, 2), odd), False)
            self.gives(close_holds, (PLAIN, LONG, (1, 2), (odd, paper[1])), False)
            self.gives(close_holds, (PLAIN, LONG, (1, 2), (paper[0], (odd, paper[1][1]))), False)
            self.gives(close_holds, (PLAIN, LONG, (1, 2), (paper[0], (paper[1][0], (odd,)))), False)


if __name__ == "__main__":
    unittest.main()
