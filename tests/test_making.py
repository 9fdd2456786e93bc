"""Spreads made of spreads: part C, and [A2] (a)."""

import itertools
import unittest
from fractions import Fraction

from tests.oracle import (Draw, chance_up_to, is_curve, many_chance, pair, poly, poly_plus, poly_power, probes,
                          shared, spread_mean, spread_places, sum_chance, value)
from tests.support import Case, run_examples
from unsureworks.bounds import MAX_DEGREE, MAX_OFTEN, MAX_PAIRS, MAX_STEPS
from unsureworks.making import (apart, greater, grown, held, joined, joined_often, kth, lesser, mixed, moved,
                                rounded)
from unsureworks.spreads import chance_of, even, heaped, lump, mean, spread_error, tent

EXAMPLES = """
>>> from unsureworks.making import apart, greater, grown, held, joined, joined_often, kth, lesser, mixed, moved, rounded
>>> from unsureworks.spreads import even, lump, tent
>>> nought, half, whole_one, two = (0, 1), (1, 2), (1, 1), (2, 1)
>>> some, plain = (((nought, (1, 4)),), ((nought, whole_one, ((3, 4),)),)), even(nought, whole_one)
>>> moved(some, half), grown(some, (-2, 1))
(((((1, 2), (1, 4)),), (((1, 2), (3, 2), ((3, 4),)),)), ((((0, 1), (1, 4)),), (((-2, 1), (0, 1), ((3, 8),)),)))
>>> moved(tent(nought, whole_one, two), whole_one) == tent(whole_one, two, (3, 1)), grown(some, nought) == lump(nought)
(True, True)
>>> apart(plain, (1, 4)), apart(some, half)
(((), (((0, 1), (1, 4), ((2, 1),)), ((1, 4), (3, 4), ((1, 1),)))), ((((1, 2), (1, 4)),), (((0, 1), (1, 2), ((3, 2),)),)))
>>> joined(plain, plain) == tent(nought, whole_one, two), joined(plain, lump(half)) == moved(plain, half)
(True, True)
>>> joined(some, some)
((((0, 1), (1, 16)),), (((0, 1), (1, 1), ((3, 8), (9, 16))), ((1, 1), (2, 1), ((9, 8), (-9, 16)))))
>>> joined_often(plain, 3)[1][1], joined_often((((nought, half), (whole_one, half)), ()), 2)
(((1, 1), (2, 1), ((-3, 2), (3, 1), (-1, 1))), ((((0, 1), (1, 4)), ((1, 1), (1, 2)), ((2, 1), (1, 4))), ()))
>>> joined_often(tent(nought, whole_one, two), 1) == tent(nought, whole_one, two)
True
>>> greater(plain, plain), lesser(plain, plain)
(((), (((0, 1), (1, 1), ((0, 1), (2, 1))),)), ((), (((0, 1), (1, 1), ((2, 1), (-2, 1))),)))
>>> kth((plain, plain, plain), 1), greater(lump(half), plain)
(((), (((0, 1), (1, 1), ((0, 1), (6, 1), (-6, 1))),)), ((((1, 2), (1, 2)),), (((1, 2), (1, 1), ((1, 1),)),)))
>>> kth((some, some), 0), kth((some, plain), 1) == greater(some, plain)
(((((0, 1), (7, 16)),), (((0, 1), (1, 1), ((9, 8), (-9, 8))),)), True)
>>> mixed((((1, 3), lump(nought)), ((2, 3), even(nought, two)))), mixed((((1, 2), plain), ((1, 2), plain))) == plain
(((((0, 1), (1, 3)),), (((0, 1), (2, 1), ((1, 3),)),)), True)
>>> mixed((((1, 2), plain), ((1, 2), even(whole_one, two)))) == even(nought, two)
True
>>> held(some, nought, half, True, True), held(some, nought, half, False, False) == even(nought, half), held(some, nought, nought, True, True) == lump(nought)
(((((0, 1), (2, 5)),), (((0, 1), (1, 2), ((6, 5),)),)), True, True)
>>> held(plain, half, half, True, True)
raises NoChance()
>>> rounded(plain, (1, 3)), rounded(even((-1, 1), half), whole_one), rounded(some, two) == lump(nought)
(((((0, 1), (1, 3)), ((1, 3), (1, 3)), ((2, 3), (1, 3))), ()), ((((-1, 1), (2, 3)), ((0, 1), (1, 3))), ()), True)
>>> rounded(plain, (1, 401))
raises TooMany(400)
>>> mixed((((1, 2), plain), ((1, 3), plain)))
raises Unfit()
"""

HALF, THIRD, QUARTER = Fraction(1, 2), Fraction(1, 3), Fraction(1, 4)
GREAT = 10 ** 40 - 1


def weight(place, share):
    """A lump."""
    return pair(place), pair(share)


def part(low, high, p):
    """A piece with this polynomial."""
    return pair(low), pair(high), p


def piece(low, high, *numbers):
    """A piece with these factors."""
    return part(low, high, poly(*numbers))


def bent(degree):
    """A spread with one piece of this degree."""
    return shared((), [(0, 1, poly(*[0] * degree, 1))])


def coins(many, step=1):
    """A spread with so many lumps, all of the same weight."""
    return shared([(k * step, 1) for k in range(many)], ())


def blocks(many, degree=0):
    """A spread with so many pieces that leave gaps, of this degree."""
    return shared((), [(2 * k, 2 * k + 1, poly(*[1] * (degree + 1))) for k in range(many)])


PLAIN = even((0, 1), (1, 1))
COIN = coins(2)
SPREADS = [
    PLAIN, lump((0, 1)), lump((-5, 3)), COIN, tent((0, 1), (1, 1), (2, 1)), tent((-2, 1), (-1, 1), (1, 3)),
    shared([(0, 1), (1, 1)], [(0, 1, poly(2))]),
    shared([(THIRD, 1)], [(0, 1, poly(1))]),
    shared([(-5, 1), (7, 1)], [(0, 1, poly(2))]),
    shared([(Fraction(3, 2), 2)], [(0, 1, poly(1)), (2, 3, poly(0, 1))]),
    shared([(-1, 1), (0, 2), (1, 1)], [(-1, 0, poly(1)), (0, 1, poly(2))]),
    shared([], [(-1, 1, poly(0, 0, 1)), (1, 2, poly(1))]),
    shared([(2, 1)], [(-3, -2, poly(0, 0, 1)), (-2, -1, poly(1, 0, 0, 0, 1)), (3, 4, poly(5, -1))]),
    shared([(HALF, 1), (Fraction(5, 8), 1)], [(0, 1, poly_plus(poly_power(poly(-1, 3), 4), poly(1)))]),
]


class MakingCase(Case):
    """A test case whose results have to be spreads."""

    def made(self, work, *args):
        """What a call returns; it is a spread, told in the one way."""
        spread = self.told(work, *args)
        self.assertIsNone(spread_error(spread))
        self.assertTrue(is_curve(spread[1]))
        self.assertTrue(all(value(share) > 0 for _, share in spread[0]))
        return spread

    def drawn(self, seed, many):
        draw = Draw(seed)
        return SPREADS + [draw.spread() for _ in range(many)]


class TestExamples(Case):

    def test_examples(self):
        run_examples(self, EXAMPLES)


class TestMoving(MakingCase):

    def test_moved(self):
        for spread in self.drawn(100, 20):
            for f in (0, 1, -2, THIRD, Fraction(-7, 5), GREAT, Fraction(1, GREAT)):
                result = self.made(moved, spread, pair(f))
                for x in spread_places(spread) + [THIRD]:
                    self.assertEqual(chance_up_to(result, x + f), chance_up_to(spread, x))
                self.gives(moved, (result, pair(-f)), spread)
            self.gives(moved, (spread, (0, 1)), spread)

    def test_grown(self):
        for spread in self.drawn(101, 20):
            self.gives(grown, (spread, (1, 1)), spread)
            self.gives(grown, (spread, (0, 1)), lump((0, 1)))
            for f in (2, THIRD, Fraction(22, 7), -1, -2, Fraction(-1, 3), GREAT, Fraction(-1, GREAT)):
                result = self.made(grown, spread, pair(f))
                for x in probes(spread_places(spread)):
                    up_to = chance_up_to(result, x * f)
                    if f > 0:
                        self.assertEqual(up_to, chance_up_to(spread, x))
                    else:
                        at_x = sum((value(share) for place, share in spread[0] if value(place) == x), Fraction(0))
                        self.assertEqual(up_to, 1 - chance_up_to(spread, x) + at_x)
                self.gives(grown, (result, pair(1 / Fraction(f))), spread)

    def test_means_of_moved_and_grown(self):
        for spread in self.drawn(102, 10):
            for f in (0, 3, Fraction(-2, 5)):
                self.assertEqual(mean(moved(spread, pair(f))), pair(spread_mean(spread) + f))
                self.assertEqual(mean(grown(spread, pair(f))), pair(spread_mean(spread) * f))

    def check_apart(self, spread, place):
        result = self.made(apart, spread, pair(place))
        far = [abs(x - place) for x in spread_places(spread)]
        for x in probes(sorted(set(far + [Fraction(0)]))):
            if x < 0:
                self.assertEqual(chance_up_to(result, x), 0)
            else:
                low, high = pair(place - x), pair(place + x)
                self.assertEqual(pair(chance_up_to(result, x)), chance_of(spread, low, high, True, True))

    def test_apart(self):
        for spread in self.drawn(103, 15):
            places = spread_places(spread)
            middles = [(a + b) / 2 for a, b in zip(places, places[1:])]
            for place in places[:4] + middles[:3] + [places[0] - 1, places[-1] + THIRD, Fraction(1, 7), Fraction(0)]:
                self.check_apart(spread, Fraction(place))

    def test_apart_from_the_middle(self):
        self.gives(apart, (PLAIN, (1, 2)), even((0, 1), (1, 2)))
        self.gives(apart, (COIN, (1, 2)), lump((1, 2)))
        self.gives(apart, (coins(3), (1, 1)), (((weight(0, THIRD), weight(1, Fraction(2, 3)))), ()))
        self.gives(apart, (tent((-1, 1), (0, 1), (1, 1)), (0, 1)), ((), (piece(0, 1, 2, -2),)))
        two = shared((), [(-2, -1, poly(1)), (1, 2, poly(1))])
        self.gives(apart, (two, (0, 1)), even((1, 1), (2, 1)))
        steps = shared((), [(-1, 0, poly(1)), (0, 1, poly(2)), (1, 2, poly(1))])
        self.gives(apart, (steps, (0, 1)), ((), (piece(0, 1, Fraction(3, 4)), piece(1, 2, QUARTER))))
        self.gives(apart, (steps, (1, 2)), ((), (piece(0, HALF, 1), piece(HALF, Fraction(3, 2), HALF))))
        # Where both sides make the same together, pieces that touch become one.
        mirror = shared((), [(-2, -1, poly(1)), (-1, 0, poly(2)), (1, 2, poly(1))])
        self.gives(apart, (mirror, (0, 1)), ((), (piece(0, 2, HALF),)))
        self.gives(apart, (lump((3, 1)), (3, 1)), lump((0, 1)))
        self.gives(apart, (lump((-3, 1)), (0, 1)), lump((3, 1)))

    def test_apart_from_outside(self):
        for spread in SPREADS:
            self.gives(apart, (spread, (100, 1)), moved(grown(spread, (-1, 1)), (100, 1)))
            self.gives(apart, (spread, (-100, 1)), moved(spread, (100, 1)))


class TestJoining(MakingCase):

    def check_joined(self, one, other):
        result = self.made(joined, one, other)
        places = sorted({x + y for x in spread_places(one) for y in spread_places(other)})
        self.assertTrue(set(spread_places(result)) <= set(places))
        for x in probes(places)[::max(1, len(places) // 12)]:
            self.assertEqual(chance_up_to(result, x), sum_chance(one, other, x))
        self.assertEqual(spread_mean(result), spread_mean(one) + spread_mean(other))
        self.gives(joined, (other, one), result)
        return result

    def test_joined(self):
        for one, other in itertools.combinations_with_replacement(SPREADS, 2):
            self.check_joined(one, other)

    def test_joined_of_drawn_ones(self):
        draw = Draw(110)
        for _ in range(15):
            one, other = draw.spread(), draw.spread()
            if (len(one[0]) + len(one[1])) * (len(other[0]) + len(other[1])) <= 30:
                self.check_joined(one, other)

    def test_joined_with_lumps(self):
        for spread in SPREADS:
            self.gives(joined, (spread, lump((0, 1))), spread)
            self.gives(joined, (lump((-2, 3)), spread), moved(spread, (-2, 3)))
        self.gives(joined, (COIN, coins(2, 2)), coins(4))
        self.gives(joined, (COIN, PLAIN), even((0, 1), (2, 1)))
        self.gives(joined, (coins(3), PLAIN), even((0, 1), (3, 1)))
        self.gives(joined, (coins(2, 2), PLAIN), blocks(2))
        self.gives(joined, (COIN, COIN), ((weight(0, QUARTER), weight(1, HALF), weight(2, QUARTER)), ()))

    def test_joined_with_the_contrary(self):
        for spread in SPREADS:
            result = self.check_joined(spread, grown(spread, (-1, 1)))
            self.gives(grown, (result, (-1, 1)), result)
            self.assertEqual(mean(result), (0, 1))

    def test_knots_that_fall_together(self):
        wide = even((0, 1), (2, 1))
        self.gives(joined, (PLAIN, wide), ((), (piece(0, 1, 0, HALF), piece(1, 2, HALF), piece(2, 3, Fraction(3, 2), -HALF))))
        self.gives(joined, (wide, wide), tent((0, 1), (2, 1), (4, 1)))
        self.gives(joined, (joined(PLAIN, PLAIN), PLAIN), joined_often(PLAIN, 3))
        # The sum of such gaps has none left, and one knot less than pairs of pieces tell.
        self.gives(joined, (blocks(2), even((0, 1), (2, 1))), ((), (piece(0, 1, 0, QUARTER), piece(1, 4, QUARTER), piece(4, 5, Fraction(5, 4), -QUARTER))))

    def test_orders_and_brackets(self):
        some = [SPREADS[k] for k in (0, 3, 4, 6, 7, 9)]
        for one, other, third in itertools.combinations(some, 3):
            result = self.made(joined, joined(one, other), third)
            self.gives(joined, (one, joined(other, third)), result)
            self.gives(joined, (joined(one, third), other), result)

    def test_too_many_pairs(self):
        self.assertEqual(MAX_PAIRS, 100)
        self.made(joined, coins(10), coins(10, 10))
        self.gives(joined, (coins(10), coins(10, 10)), coins(100))
        self.made(joined, coins(50), coins(2))
        self.made(joined, blocks(10), coins(10))
        self.made(joined, blocks(5), blocks(20))
        for one, other in ((coins(50), coins(3)), (coins(10), coins(11)), (blocks(10), coins(11)), (blocks(1), coins(101)),
                           (shared([(k, 1) for k in range(5)], [(k, k + HALF, poly(1)) for k in range(6)]), coins(10))):
            self.fails(joined, (one, other), "TooMany(100)")
            self.fails(joined, (other, one), "TooMany(100)")
        # What falls together counts as if it did not.
        self.fails(joined, (coins(10), coins(11)), "TooMany(100)")

    def test_too_great_degrees(self):
        self.assertEqual(MAX_DEGREE, 40)
        high = joined_often(bent(12), 3)
        self.assertEqual(max(len(p) for _, _, p in high[1]), 39)
        self.made(joined, high, bent(1))
        self.made(joined, high, PLAIN)
        self.made(joined, high, COIN)
        self.fails(joined, (high, bent(2)), "TooMany(40)")
        self.fails(joined, (bent(2), high), "TooMany(40)")
        highest = joined(high, bent(1))
        self.made(joined, highest, COIN)
        self.fails(joined, (highest, PLAIN), "TooMany(40)")
        self.made(joined, joined(bent(9), bent(10)), bent(12))

    def test_pairs_ahead_of_degrees(self):
        high = joined_often(bent(12), 3)
        many = mixed((((1, 2), high), ((1, 2), coins(48))))
        self.assertGreater(len(many[0]) + len(many[1]), 50)
        self.fails(joined, (many, shared([(5, 1)], [(0, 1, poly(0, 0, 1))])), "TooMany(100)")
        self.fails(joined, (high, mixed((((1, 2), high), ((1, 2), coins(40))))), "TooMany(100)")
        self.fails(joined, (high, high), "TooMany(40)")

    def test_joined_often(self):
        for spread in SPREADS:
            total = spread
            for n in range(1, 13):
                if n * (len(spread[0]) + len(spread[1])) > MAX_OFTEN:
                    self.fails(joined_often, (spread, n), "TooMany(16)")
                    continue
                if n > 1 and n < 6:
                    total = joined(total, spread)
                    self.gives(joined_often, (spread, n), total)
                elif n == 1:
                    self.gives(joined_often, (spread, 1), spread)
        self.gives(joined_often, (lump((1, 3)), 12), lump((4, 1)))

    def test_joined_twelve_times(self):
        result = self.made(joined_often, PLAIN, 12)
        self.assertEqual(len(result[1]), 12)
        self.assertEqual(mean(result), (6, 1))
        self.assertEqual(result[1][0][2], poly(*[0] * 11, Fraction(1, 39916800)))
        self.gives(joined_often, (joined_often(PLAIN, 1), 12), result)
        self.gives(joined, (joined_often(PLAIN, 5), joined_often(PLAIN, 7)), result)
        self.gives(grown, (result, (-1, 1)), moved(result, (-12, 1)))

    def test_bounds_of_joined_often(self):
        self.made(joined_often, coins(16), 1)
        self.fails(joined_often, (coins(17), 1), "TooMany(16)")
        self.made(joined_often, coins(8), 2)
        self.fails(joined_often, (coins(9), 2), "TooMany(16)")
        self.made(joined_often, coins(4), 4)
        self.fails(joined_often, (coins(4), 5), "TooMany(16)")
        self.made(joined_often, blocks(2), 8)
        self.fails(joined_often, (blocks(2), 9), "TooMany(16)")
        self.made(joined_often, shared([(0, 1)], [(0, 1, poly(1)), (1, 2, poly(2))]), 5)
        self.fails(joined_often, (shared([(0, 1)], [(0, 1, poly(1)), (1, 2, poly(2))]), 6), "TooMany(16)")
        self.made(joined_often, bent(12), 3)
        self.fails(joined_often, (bent(12), 4), "TooMany(40)")
        for degree, n in ((6, 6), (5, 7), (2, 12), (1, 12), (0, 12), (7, 5), (3, 10), (4, 8)):
            if n * (degree + 1) > 41:
                self.fails(joined_often, (bent(degree), n), "TooMany(40)")
            else:
                self.assertEqual(len(self.made(joined_often, bent(degree), n)[1][0][2]), n * (degree + 1))
        self.made(joined_often, bent(9), 4)
        self.fails(joined_often, (bent(9), 5), "TooMany(40)")
        self.made(joined_often, bent(2), 12)
        self.fails(joined_often, (bent(3), 11), "TooMany(40)")
        self.made(joined_often, bent(3), 10)
        self.made(joined_often, lump((1, 1)), 12)
        self.made(joined_often, joined(joined_often(bent(12), 3), bent(1)), 1)
        # Both apply: the one of items is told.
        self.fails(joined_often, (blocks(2, 12), 9), "TooMany(16)")
        self.fails(joined_often, (blocks(2, 12), 8), "TooMany(40)")


class TestOrderOfNumbers(MakingCase):

    def check_kth(self, spreads):
        results = [self.made(kth, spreads, k) for k in range(len(spreads))]
        for x in probes(spread_places(*spreads)):
            chances = [chance_up_to(spread, x) for spread in spreads]
            for k, result in enumerate(results):
                self.assertEqual(chance_up_to(result, x), many_chance(chances, k + 1))
        self.assertEqual(sum(spread_mean(result) for result in results), sum(spread_mean(spread) for spread in spreads))
        return results

    def test_two(self):
        for one, other in itertools.combinations_with_replacement(SPREADS, 2):
            low, high = self.check_kth((one, other))
            for both in ((one, other), (other, one)):
                self.gives(lesser, both, low)
                self.gives(greater, both, high)
            self.assertEqual(mixed((((1, 2), low), ((1, 2), high))), mixed((((1, 2), one), ((1, 2), other))))
            contrary = [grown(spread, (-1, 1)) for spread in (one, other)]
            self.gives(lesser, tuple(contrary), grown(high, (-1, 1)))

    def test_more(self):
        draw = Draw(120)
        for many in (3, 4, 5, 6):
            for _ in range(3):
                self.check_kth(tuple(draw.lot.choice(SPREADS) for _ in range(many)))
        self.check_kth((draw.spread(), draw.spread(), draw.spread()))

    def test_brackets(self):
        some = [SPREADS[k] for k in (0, 3, 4, 6, 7, 12)]
        for one, other, third in itertools.combinations(some, 3):
            self.gives(greater, (greater(one, other), third), kth((one, other, third), 2))
            self.gives(lesser, (one, lesser(other, third)), kth((third, one, other), 0))

    def test_spreads_apart(self):
        low, high, higher = PLAIN, even((1, 1), (2, 1)), shared([(5, 1)], [(3, 4, poly(1))])
        self.gives(greater, (low, high), high)
        self.gives(lesser, (low, high), low)
        for spreads in itertools.permutations((low, high, higher)):
            for k, spread in enumerate((low, high, higher)):
                self.gives(kth, (spreads, k), spread)
        self.gives(greater, (lump((1, 1)), PLAIN), lump((1, 1)))
        self.gives(lesser, (lump((1, 1)), PLAIN), PLAIN)
        self.gives(lesser, (lump((0, 1)), PLAIN), lump((0, 1)))

    def test_lumps_at_one_place(self):
        self.gives(greater, (lump((1, 2)), lump((1, 2))), lump((1, 2)))
        self.gives(greater, (COIN, COIN), ((weight(0, QUARTER), weight(1, Fraction(3, 4))), ()))
        self.gives(lesser, (COIN, COIN), ((weight(0, Fraction(3, 4)), weight(1, QUARTER)), ()))
        for k in range(6):
            up_to = many_chance([HALF] * 6, k + 1)
            self.gives(kth, ((COIN,) * 6, k), ((weight(0, up_to), weight(1, 1 - up_to)), ()))

    def test_alike(self):
        for k in range(6):
            result = self.made(kth, (PLAIN,) * 6, k)
            self.assertEqual(len(result[1]), 1)
            self.assertEqual(mean(result), pair(Fraction(k + 1, 7)))

    def test_bounds(self):
        high = joined_often(bent(12), 3)
        self.made(greater, high, bent(1))
        self.made(lesser, bent(1), high)
        self.made(kth, (high, COIN, PLAIN, COIN, PLAIN), 3)
        for work in (greater, lesser):
            self.fails(work, (high, bent(2)), "TooMany(40)")
            self.fails(work, (bent(2), high), "TooMany(40)")
        self.fails(kth, ((high, COIN, PLAIN, PLAIN, PLAIN), 3), "TooMany(40)")
        self.fails(kth, ((high, bent(1), PLAIN), 0), "TooMany(40)")
        highest = joined(high, bent(1))
        self.made(greater, highest, COIN)
        self.fails(greater, (highest, even((100, 1), (101, 1))), "TooMany(40)")
        self.made(kth, (bent(12), bent(12), bent(12), bent(1)), 2)
        self.fails(kth, ((bent(12), bent(12), bent(12), bent(2)), 2), "TooMany(40)")
        self.made(kth, (bent(6),) * 5 + (bent(5),), 5)
        self.fails(kth, ((bent(6),) * 6, 5), "TooMany(40)")
        # Items may be many.
        self.made(greater, coins(50), blocks(16))


class TestMixing(MakingCase):

    def test_mixed(self):
        draw = Draw(130)
        for _ in range(25):
            many = draw.lot.randint(1, 5)
            shares = [Fraction(draw.lot.randint(1, 6)) for _ in range(many)]
            rows = tuple((pair(share / sum(shares)), draw.lot.choice([draw.lot.choice(SPREADS), draw.spread()])) for share in shares)
            result = self.made(mixed, rows)
            for x in probes(spread_places(*[spread for _, spread in rows])):
                self.assertEqual(chance_up_to(result, x), sum(value(share) * chance_up_to(spread, x) for share, spread in rows))
            self.assertEqual(spread_mean(result), sum(value(share) * spread_mean(spread) for share, spread in rows))
            self.gives(mixed, (rows[::-1],), result)

    def test_some(self):
        for spread in SPREADS:
            self.gives(mixed, ((((1, 1), spread),),), spread)
            self.gives(mixed, ((((1, 3), spread), ((2, 3), spread)),), spread)
            self.gives(mixed, ((((1, 3), spread),) * 3,), spread)
        self.gives(mixed, (tuple(((1, 4), even((k, 1), (k + 1, 1))) for k in range(4)),), even((0, 1), (4, 1)))
        self.gives(mixed, (tuple(((1, 4), lump((k, 1))) for k in range(4)),), coins(4))
        self.gives(mixed, ((((1, 2), even((0, 1), (2, 1))), ((1, 2), even((1, 1), (3, 1)))),),
                   ((), (piece(0, 1, QUARTER), piece(1, 2, HALF), piece(2, 3, QUARTER))))
        self.gives(mixed, ((((1, 2), bent(1)), ((1, 2), grown(moved(bent(1), (-1, 1)), (-1, 1)))),), PLAIN)

    def test_shares_that_do_not_fit(self):
        for shares in (((1, 2), (1, 3)), ((1, 2), (2, 3)), ((0, 1), (1, 1)), ((1, 1), (0, 1)), ((-1, 2), (3, 2)),
                       ((3, 2), (-1, 2)), ((1, 1), (1, 1)), ((0, 1),), ((-1, 1),), ((1, 2),), ((2, 1),),
                       ((1, 2), (1, 2), (0, 1)), ((1, 3), (1, 3), (GREAT // 3, GREAT + 1))):
            self.fails(mixed, (tuple((share, PLAIN) for share in shares),), "Unfit()")


class TestHeld(MakingCase):

    def test_held(self):
        for spread in self.drawn(140, 8):
            places = spread_places(spread)
            picked = places[:4] + [places[-1]]
            picked = sorted(set(picked + [(a + b) / 2 for a, b in zip(picked, picked[1:])] + [places[0] - 1, places[-1] + 1]))
            for low, high in itertools.product(picked[::2] + picked[1:2], picked):
                for low_in, high_in in itertools.product((True, False), repeat=2):
                    self.check_held(spread, low, high, low_in, high_in)

    def check_held(self, spread, low, high, low_in, high_in):
        args = (spread, pair(low), pair(high), low_in, high_in)
        if low > high:
            self.fails(held, args, "Unfit()")
            return
        chance = value(chance_of(*args))
        if chance == 0:
            self.fails(held, args, "NoChance()")
            return
        result = held(*args)
        self.gives(held, args, result)
        self.assertIsNone(spread_error(result))
        for x in probes(sorted({low, high} | {y for y in spread_places(spread) if low < y < high})):
            if x < low:
                expected = 0
            elif x >= high:
                expected = 1
            else:
                expected = value(chance_of(spread, pair(low), pair(x), low_in, x > low or low_in)) / chance
            self.assertEqual(chance_up_to(result, x), expected)
        self.assertTrue(all(low <= y <= high for y in spread_places(result)))

    def test_ways_at_lumps(self):
        spread = shared([(0, 1), (1, 1)], [(0, 1, poly(2))])
        inner = even((0, 1), (1, 1))
        self.gives(held, (spread, (0, 1), (1, 1), True, True), spread)
        self.gives(held, (spread, (0, 1), (1, 1), False, False), inner)
        self.gives(held, (spread, (0, 1), (1, 1), True, False), shared([(0, 1)], [(0, 1, poly(2))]))
        self.gives(held, (spread, (0, 1), (1, 1), False, True), shared([(1, 1)], [(0, 1, poly(2))]))
        self.gives(held, (spread, (1, 1), (1, 1), True, True), lump((1, 1)))
        for ins in ((True, False), (False, True), (False, False)):
            self.fails(held, (spread, (1, 1), (1, 1)) + ins, "NoChance()")
            self.fails(held, (spread, (1, 1), (0, 1)) + ins, "Unfit()")
        self.fails(held, (spread, (2, 1), (3, 1), True, True), "NoChance()")
        self.fails(held, (spread, (3, 1), (2, 1), True, True), "Unfit()")
        self.fails(held, (spread, (1, 1), (2, 1), False, True), "NoChance()")
        self.fails(held, (COIN, (0, 1), (1, 1), False, False), "NoChance()")

    def test_held_twice(self):
        for spread in SPREADS:
            places = spread_places(spread)
            low, high = places[0], places[-1]
            middle, further = low + (high - low) / 3, low + (high - low) * Fraction(4, 5)
            for low_in, high_in in itertools.product((True, False), repeat=2):
                once = (pair(low), pair(further), True, high_in)
                twice = (pair(middle), pair(high), low_in, True)
                both = (pair(middle), pair(further), low_in, high_in)
                if value(chance_of(spread, *both)) == 0:
                    continue
                result = held(spread, *both)
                self.gives(held, (held(spread, *once),) + twice, result)
                self.gives(held, (held(spread, *twice),) + once, result)


class TestRounded(MakingCase):

    def check_rounded(self, spread, width):
        result = self.made(rounded, spread, pair(width))
        self.assertEqual(result[1], ())
        for place, share in result[0]:
            count = value(place) / width
            self.assertEqual(count.denominator, 1)
            begin, end = value(place), value(place) + width
            self.assertEqual(share, chance_of(spread, pair(begin), pair(end), True, False))
        return result

    def test_rounded(self):
        for spread in self.drawn(150, 10):
            places = spread_places(spread)
            if places[-1] - places[0] < 50:
                for width in (1, 2, THIRD, Fraction(5, 7), 100):
                    self.check_rounded(spread, Fraction(width))

    def test_ends_and_lumps_at_multiples(self):
        self.gives(rounded, (even((0, 1), (3, 1)), (1, 1)), coins(3))
        self.gives(rounded, (even((0, 1), (3, 1)), (3, 1)), lump((0, 1)))
        self.gives(rounded, (even((0, 1), (3, 1)), (4, 1)), lump((0, 1)))
        self.gives(rounded, (COIN, (1, 1)), COIN)
        self.gives(rounded, (COIN, (2, 1)), lump((0, 1)))
        self.gives(rounded, (lump((1, 1)), (1, 1)), lump((1, 1)))
        self.gives(rounded, (lump((99, 100)), (1, 1)), lump((0, 1)))
        self.gives(rounded, (lump((-1, 1)), (1, 1)), lump((-1, 1)))
        self.gives(rounded, (lump((-1, 100)), (1, 1)), lump((-1, 1)))
        self.gives(rounded, (lump((-5, 2)), (1, 1)), lump((-3, 1)))
        self.gives(rounded, (lump((-5, 2)), (1, 2)), lump((-5, 2)))
        self.gives(rounded, (even((-3, 1), (0, 1)), (1, 1)), moved(coins(3), (-3, 1)))
        self.gives(rounded, (even((-1, 2), (1, 2)), (1, 1)), moved(COIN, (-1, 1)))
        self.gives(rounded, (shared([(1, 1)], [(0, 1, poly(1))]), (1, 1)), COIN)
        self.gives(rounded, (blocks(2), (1, 1)), coins(2, 2))
        self.gives(rounded, (blocks(3), (2, 1)), coins(3, 2))
        for spread in SPREADS:
            if not spread[1] and all(bottom in (1, 3) for (_, bottom), _ in spread[0]):
                self.gives(rounded, (spread, (1, 3)), spread)

    def test_widths_that_do_not_fit(self):
        for spread in SPREADS:
            for width in ((0, 1), (-1, 1), (-1, GREAT)):
                self.fails(rounded, (spread, width), "Unfit()")

    def test_bounds(self):
        self.assertEqual(MAX_STEPS, 400)
        self.check_rounded(PLAIN, Fraction(1, 400))
        self.fails(rounded, (PLAIN, (10 ** 30, 400 * 10 ** 30 + 1)), "TooMany(400)")
        self.check_rounded(moved(PLAIN, (-1, 801)), Fraction(1, 400))
        self.fails(rounded, (PLAIN, (1, 401)), "TooMany(400)")
        self.check_rounded(coins(2, 400), Fraction(1))
        self.fails(rounded, (coins(2, 401), (1, 1)), "TooMany(400)")
        self.fails(rounded, (coins(2, 401), (-1, 1)), "Unfit()")
        self.gives(rounded, (lump((7, 3)), (1, GREAT)), lump((7 * GREAT // 3, GREAT) if 7 * GREAT % 3 else (7, 3)))
        spread = shared([(-200, 1)], [(199, 200, poly(1))])
        self.check_rounded(spread, Fraction(1))
        self.fails(rounded, (shared([(-200, 1)], [(199, 201, poly(1))]), (1, 1)), "TooMany(400)")


class TestHeapsOfWhatIsMade(MakingCase):

    def test_product_of_heaps(self):
        """The chance of the greater one to be at most t is the product of both chances."""
        for one, other in itertools.combinations(SPREADS[:9], 2):
            result = heaped(greater(one, other))
            self.assertEqual(result[1][-1][1:], ((1, 1), ((1, 1),)))

    def test_equal_chances_are_equal_spreads(self):
        self.assertEqual(joined(COIN, even((0, 1), (1, 1))), mixed((((1, 2), PLAIN), ((1, 2), moved(PLAIN, (1, 1))))))
        self.assertEqual(grown(joined(PLAIN, PLAIN), (1, 2)), tent((0, 1), (1, 2), (1, 1)))
        self.assertEqual(apart(joined(PLAIN, grown(PLAIN, (-1, 1))), (0, 1)), ((), (piece(0, 1, 2, -2),)))
        self.assertEqual(greater(PLAIN, PLAIN), bent(1))
        self.assertEqual(joined(lesser(PLAIN, PLAIN), (lump((0, 1)))), grown(moved(bent(1), (-1, 1)), (-1, 1)))


if __name__ == "__main__":
    unittest.main()
