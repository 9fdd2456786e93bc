"""Values: [H1] to [H6], and [A2] (b), (d)."""

import itertools
import time
import unittest
from fractions import Fraction

from tests.oracle import Draw, all_values, chance_up_to, is_curve, pair, poly, probes, shared, spread_mean, spread_places, value
from tests.oracle_worlds import Worlds, constant, many, numbers_of_all_parts, total
from tests.support import Case, run_examples
from unsureworks.bounds import MAX_LONG
from unsureworks.chances import chance, chance_given, mean_of
from unsureworks.errors import NoChance, TooMany
from unsureworks.making import greater, grown, joined, joined_often, lesser
from unsureworks.spreads import even, heaped, lump, spread_error, tent
from unsureworks.stepcurves import step_at
from unsureworks.values import above_at, alike_in_spread, by_parts, spread_of, surely_alike, unlike_at
from unsureworks.worlds import is_numbers, world_error

EXAMPLES = """
>>> from unsureworks.spreads import even
>>> from unsureworks.values import above_at, alike_in_spread, by_parts, spread_of, surely_alike, unlike_at
>>> unit = even((0, 1), (1, 1))
>>> both = (("sum", (((1, 1), 0), ((1, 1), 1)), (0, 1)), ("greatest", 0, 1))
>>> spread_of((unit, unit), both, 3, None), spread_of((unit, unit), both, 0, ("<", 0, 1))
(((), (((0, 1), (1, 1), ((0, 1), (2, 1))),)), ((), (((0, 1), (1, 1), ((2, 1), (-2, 1))),)))
>>> spread_of((unit, unit), both, 2, None)
((), (((0, 1), (1, 1), ((0, 1), (1, 1))), ((1, 1), (2, 1), ((2, 1), (-1, 1)))))
>>> capped = (("sum", (), (1, 2)), ("least", 0, 1))
>>> spread_of((unit,), capped, 2, None), spread_of((unit,), capped, 2, ("=", 0, 2))
(((((1, 2), (1, 2)),), (((0, 1), (1, 2), ((1, 1),)),)), ((), (((0, 1), (1, 2), ((2, 1),)),)))
>>> spread_of((unit, unit), both, 3, ("<", 3, 1))
raises NoChance()
>>> by_parts((unit, unit), both, 3) == spread_of((unit, unit), both, 3, None), by_parts((unit, unit), both, 2) == spread_of((unit, unit), both, 2, None)
(True, True)
>>> by_parts((unit, unit), both + (("sum", (((1, 1), 1), ((-1, 1), 2)), (0, 1)),), 4)
raises Shared(1)
>>> by_parts((unit, unit), both + (("choice", 0, "<", 1, 0, 1),), 4)
raises NotParts(4)
>>> unlike_at((unit, unit), both, 0, 0), above_at((unit, unit), both, 0, 3)
(None, None)
>>> surely_alike((unit, unit), both, 0, 1), alike_in_spread((unit, unit), both, 0, 1)
(False, True)
>>> ties = (("sum", (), (0, 1)), ("sum", (), (1, 1)), ("choice", 0, "<", 1, 2, 3), ("choice", 0, "<=", 1, 2, 3))
>>> surely_alike((unit, unit), ties, 4, 5)
True
>>> x, y = unlike_at((unit, unit), ties, 4, 5)
>>> x == y, 0 < x[0] < x[1]
(True, True)
>>> steps = ((((0, 1), (1, 2)), ((1, 1), (1, 2))), ())
>>> surely_alike((steps, steps), ties, 4, 5), unlike_at((steps, unit), ties, 4, 5)
(False, None)
"""

NONE, ONE, HALF, LESS, TWO = (0, 1), (1, 1), (1, 2), (-1, 1), (2, 1)
UNIT, COIN = even(NONE, ONE), (((NONE, HALF), (ONE, HALF)), ())
MIXED = (((HALF, HALF),), ((NONE, ONE, (HALF,)),))
SAY = ("<", 0, 1)


def plain_sum(*names):
    """A line that adds up names."""
    return "sum", tuple((ONE, name) for name in names), NONE


class ValuesCase(Case):

    def is_spread_of(self, world, program, name, seen, spread):
        """A spread has up to each place the chance that the name comes to at most this."""
        self.assertIsNone(spread_error(spread))
        self.assertTrue(is_curve(spread[1]))
        names = len(world) + len(program)
        for place in probes(spread_places(spread)):
            lines = program + (("sum", (), pair(place)),)
            self.assertEqual(chance_given(world, lines, ("<=", name, names), seen), pair(chance_up_to(spread, place)))
        for place, weight in spread[0]:
            self.assertEqual(chance_given(world, program + (("sum", (), place),), ("=", name, names), seen), weight)


class TestSpreadOf(ValuesCase):

    def test_examples(self):
        run_examples(self, EXAMPLES)

    def test_drawn_ones(self):
        worlds = Worlds(Draw(1200))
        lot = worlds.lot
        lumps, pieces = 0, 0
        for _ in range(220):
            world = worlds.world((1, 2, 2, 3))
            many_lines = lot.randint(1, 4)
            program = worlds.program(len(world), many_lines, lot.randint(0, min(2, many_lines)))
            names = len(world) + len(program)
            name, seen = lot.randrange(names), lot.choice([None, worlds.saying(names, 1)])
            try:
                spread = spread_of(world, program, name, seen)
            except NoChance:
                self.fails(spread_of, (world, program, name, seen), "NoChance()")
                self.assertEqual(chance(world, program, seen), NONE)
                continue
            self.gives(spread_of, (world, program, name, seen), spread)
            self.is_spread_of(world, program, name, seen, spread)
            self.assertEqual(spread_mean(spread), value(mean_of(world, program, name, seen)))
            lumps, pieces = lumps + len(spread[0]), pieces + len(spread[1])
        self.assertGreater(min(lumps, pieces), 100)

    def test_against_another_reckoning(self):
        worlds = Worlds(Draw(1201))
        for _ in range(40):
            world = worlds.world((1, 2), 4)
            program = worlds.program(len(world), 2, 1)
            name = len(world) + 1
            spread = spread_of(world, program, name, None)
            for place in probes(spread_places(spread))[::3]:
                lines = program + (constant(place),)
                self.assertEqual(chance_up_to(spread, place), total(world, lines, [], ("<=", name, name + 1)))

    def test_draws_alone(self):
        for spread in (UNIT, COIN, MIXED, tent(NONE, ONE, TWO), lump(HALF), shared([(0, 1), (5, 2)], [(0, 1, poly(0, 0, 1)), (1, 2, poly(0, 1)), (3, 4, poly(1))])):
            self.gives(spread_of, ((spread,), (), 0, None), spread)
            self.gives(spread_of, ((UNIT, spread), (), 1, None), spread)
            self.gives(spread_of, ((COIN, spread, UNIT), (), 1, None), spread)
            self.gives(spread_of, ((spread,), (("sum", (((-2, 1), 0),), HALF),), 1, None), joined(grown(spread, (-2, 1)), lump(HALF)))
            self.gives(spread_of, ((spread, COIN), (("sum", ((NONE, 0),), ONE),), 2, None), lump(ONE))

    def test_pieces_of_degree_2(self):
        bent = shared([], [(0, 1, poly(0, 0, 3))])
        self.gives(spread_of, ((bent, bent), (("greatest", 0, 1),), 2, None), ((), ((NONE, ONE, poly(0, 0, 0, 0, 0, 6)),)))
        self.gives(spread_of, ((bent,) * 2, (plain_sum(0, 1),), 2, None), joined_often(bent, 2))
        self.gives(spread_of, ((bent,) * 3, (plain_sum(0, 1, 2),), 3, None), joined_often(bent, 3))
        self.gives(spread_of, ((bent,), (constant(Fraction(1, 2)),), 0, ("<", 0, 1)), ((), ((NONE, HALF, poly(0, 0, 24)),)))

    def test_lumps_of_whole_parts(self):
        lines = (constant(Fraction(1, 3)), constant(Fraction(2, 3)), ("greatest", 0, 1), ("least", 3, 2))
        self.gives(spread_of, ((UNIT,), lines, 4, None), ((((1, 3), (1, 3)), ((2, 3), (1, 3))), (((1, 3), (2, 3), (ONE,)),)))
        self.gives(spread_of, ((UNIT,), lines, 4, ("<", 0, 4)), lump((1, 3)))
        self.gives(spread_of, ((UNIT,), lines, 4, ("=", 0, 4)), even((1, 3), (2, 3)))
        # Several parts, and a lump of the draw, that come to one fraction.
        lines = (constant(0), constant(1), ("choice", 0, "<", 1, 2, 3), ("choice", 1, "<", 0, 2, 3))
        self.gives(spread_of, ((UNIT, UNIT), lines + (("least", 4, 5),), 6, None), lump(NONE))
        self.gives(spread_of, ((UNIT, UNIT), lines + (plain_sum(4, 5),), 6, None), lump(ONE))
        self.gives(spread_of, ((MIXED, MIXED), lines + (plain_sum(4, 5),), 6, None), (((ONE, (3, 4)), (TWO, (1, 4))), ()))
        self.gives(spread_of, ((MIXED,), (constant(Fraction(1, 2)), ("greatest", 0, 1)), 2, None), (((HALF, (3, 4)),), ((HALF, ONE, (HALF,)),)))
        self.gives(spread_of, ((MIXED,), (constant(Fraction(1, 2)),), 0, ("<=", 0, 1)), (((HALF, (2, 3)),), ((NONE, HALF, ((2, 3),)),)))
        self.gives(spread_of, ((MIXED,), (constant(Fraction(1, 2)),), 0, ("<", 0, 1)), even(NONE, HALF))
        self.gives(spread_of, ((MIXED,), (constant(Fraction(1, 2)),), 0, ("=", 0, 1)), lump(HALF))
        self.gives(spread_of, ((COIN,), (("sum", ((NONE, 0),), (5, 1)),), 1, None), lump((5, 1)))
        self.gives(spread_of, ((UNIT, UNIT), (("sum", ((ONE, 0), (LESS, 1)), NONE), plain_sum(1, 2)), 3, None), UNIT)
        self.gives(spread_of, ((UNIT,), (("sum", ((LESS, 0),), NONE), plain_sum(0, 1)), 2, None), lump(NONE))

    def test_lumps_on_borders(self):
        world = (COIN, UNIT)
        self.gives(spread_of, (world, (), 0, ("<", 0, 1)), lump(NONE))
        self.gives(spread_of, (world, (), 0, ("<=", 1, 0)), lump(ONE))
        self.gives(spread_of, (world, (("greatest", 0, 1),), 2, None), (((ONE, HALF),), ((NONE, ONE, (HALF,)),)))
        self.gives(spread_of, (world, (constant(1),), 0, ("<", 0, 2)), lump(NONE))
        self.gives(spread_of, (world, (constant(1),), 0, ("<=", 0, 2)), COIN)
        self.gives(spread_of, (world, (constant(1),), 1, ("<=", 0, 2)), UNIT)

    def test_errors(self):
        world = (UNIT, UNIT)
        led = (("shift", 0, ONE), ("greatest", 0, 2), plain_sum(1), ("least", 0, 1), ("least", 0, 5))
        self.fails(spread_of, (world, led, 2, None), "Unfit()")
        self.fails(spread_of, (world, led, 3, None), "Unfit()")
        self.fails(spread_of, (world, led, 0, ("<", 0, 3)), "Unfit()")
        self.fails(spread_of, (world, led, 2, many(("<", 6, 6), 4)), "Unfit()")
        self.gives(spread_of, (world, led, 4, None), UNIT)
        chain = (("greatest", 0, 1),) + tuple(("greatest", 0, 2 + k) for k in range(3))
        for draws, limit in ((2, 6), (3, 4)):
            world = (UNIT,) * draws
            lines = (("greatest", 0, 1),) + tuple(("greatest", 0, draws + k) for k in range(3))
            for choices, compared in itertools.product(range(5), range(5)):
                name = draws + choices - 1 if choices else 0
                seen = many(SAY, compared) if compared else None
                if choices + compared > limit:
                    self.fails(spread_of, (world, lines, name, seen), f"TooMany({limit})")
                    self.fails(spread_of, (world, lines, name, many(("<", 0, 0), compared)), f"TooMany({limit})")
                else:
                    self.assertIsNone(spread_error(spread_of(world, lines, name, seen)))
            # Choices of what was seen count once with those of the name.
            self.fails(spread_of, (world, lines, draws + 3, many(("<", draws + 2, 1), limit - 3)), f"TooMany({limit})")
            self.gives(spread_of, (world, lines, draws + 1, many(("=", draws + 1, draws), limit - 2)), spread_of(world, lines, draws, None))
        self.fails(spread_of, ((UNIT, UNIT), chain, 5, ("=", 0, 1)), "NoChance()")
        self.fails(spread_of, ((UNIT, UNIT), chain, 0, ("<", 0, 0)), "NoChance()")

    def test_heaped_is_the_chance_up_to_each_place(self):
        worlds = Worlds(Draw(1202))
        for _ in range(30):
            world = worlds.world((2, 3))
            program = worlds.program(len(world), 3, 1)
            spread = spread_of(world, program, len(world) + 2, None)
            step = heaped(spread)
            for place in probes(spread_places(spread)):
                lines = program + (constant(place),)
                self.assertEqual(step_at(step, pair(place)), chance(world, lines, ("<=", len(world) + 2, len(world) + 3)))

    def test_time(self):
        for world in (tuple(shared([], [(k, k + 1, poly(1, Fraction(k, 3), Fraction(1, 7))) for k in range(most)]) for most in (2, 2, 3)),
                      tuple(shared([(Fraction(1, 3), 1), (Fraction(5, 3), 2)], [(0, 1, poly(1, 0, 1)), (1, 2, poly(1, Fraction(1, 7)))][:most - 2]) for most in (3, 4))):
            self.assertIsNone(world_error(world))
            draws = len(world)
            lines = (("sum", tuple((pair(Fraction(1, k + 1)), k) for k in range(draws)), (1, 7)), ("choice", draws, "<", draws - 1, 0, 1), ("greatest", draws + 1, 1),
                     ("choice", draws + 2, "<=", draws, draws - 1, draws + 1), ("least", draws + 3, draws),
                     ("sum", tuple((pair(Fraction(k + 1, 5)), k) for k in range(draws)) + ((ONE, draws + 4),), NONE))
            start = time.time()
            spread = spread_of(world, lines, draws + 5, None)
            self.assertLess(time.time() - start, 10)
            self.assertIsNone(spread_error(spread))


class TestByParts(ValuesCase):

    def test_drawn_ones(self):
        """Each draw is used by one line at most, and each line but for those without draws."""
        worlds = Worlds(Draw(1210))
        lot = worlds.lot
        gone = 0
        for _ in range(120):
            world = worlds.world((1, 2, 3))
            lines, unused = [], list(range(len(world)))
            while len(unused) > 1 or len(lines) < 2:
                some = sorted(lot.sample(unused, min(len(unused), lot.randint(1, 2))))
                word = lot.choice(["sum", "greatest", "least"]) if len(some) == 2 else "sum"
                lines.append(("sum", tuple((pair(lot.choice([1, 1, -1, 0, Fraction(1, 2)])), name) for name in some), pair(lot.choice([0, 0, 1])))
                             if word == "sum" else (word,) + tuple(lot.sample(some, 2)))
                unused = [name for name in unused if name not in some] + [len(world) + len(lines) - 1]
            program = tuple(lines)
            for name in range(len(world) + len(program)):
                try:
                    expected = spread_of(world, program, name, None)
                except TooMany:
                    continue
                gone += 1
                self.gives(by_parts, (world, program, name), expected)
        self.assertGreater(gone, 200)

    def test_how_it_is_made(self):
        world = (UNIT, COIN, tent(NONE, ONE, TWO), MIXED, lump((3, 1)))
        self.gives(by_parts, (world, (), 2), world[2])
        self.gives(by_parts, (world, (constant(5),), 5), lump((5, 1)))
        self.gives(by_parts, (world, (constant(0),), 5), lump(NONE))
        self.gives(by_parts, (world, (("sum", ((NONE, 0),), HALF),), 5), lump(HALF))
        self.gives(by_parts, (world, (("sum", ((NONE, 0), (ONE, 1)), NONE),), 5), COIN)
        self.gives(by_parts, (world, (("sum", ((LESS, 0), (TWO, 2)), HALF), ("greatest", 5, 3), ("least", 1, 6)), 7),
                   lesser(COIN, greater(joined(joined(lump(HALF), grown(UNIT, LESS)), grown(world[2], TWO)), MIXED)))
        # Fractions met twice are no draws.
        self.gives(by_parts, (world, (constant(2), ("greatest", 5, 5), plain_sum(0, 5, 6)), 7), even((4, 1), (5, 1)))
        # Lines that the name does not hang on make no difference.
        self.gives(by_parts, (world, (("choice", 0, "<", 0, 0, 0), ("shift", 0, ONE), plain_sum(0), plain_sum(0, 7)), 7), UNIT)

    def test_errors(self):
        world = (UNIT, COIN, UNIT)
        self.fails(by_parts, (world, (("shift", 0, NONE),), 3), "Unfit()")
        self.fails(by_parts, (world, (("shift", 0, ONE), ("choice", 0, "<", 3, 0, 0)), 4), "Unfit()")
        self.fails(by_parts, (world, (("shift", 0, ONE), ("sum", ((NONE, 3),), NONE)), 4), "Unfit()")
        for lines, name, error in (
                ((("choice", 0, "<", 1, 2, 2),), 3, "NotParts(3)"), ((("choice", 0, "<", 1, 2, 2), plain_sum(3)), 4, "NotParts(3)"),
                ((("choice", 0, "<", 1, 2, 2), ("choice", 0, "<", 1, 2, 2), ("greatest", 4, 3)), 5, "NotParts(3)"),
                ((("choice", 0, "<", 1, 2, 2), ("choice", 0, "<", 1, 2, 2), plain_sum(4)), 5, "NotParts(4)"),
                ((plain_sum(0), ("choice", 0, "<", 1, 2, 2), plain_sum(0, 3, 4)), 5, "NotParts(4)"),
                ((("sum", ((NONE, 0),), NONE), ("greatest", 0, 3)), 4, "Shared(0)"), ((plain_sum(0), plain_sum(0, 3)), 4, "Shared(0)"),
                ((("greatest", 2, 2),), 3, "Shared(2)"), ((("greatest", 2, 2), ("greatest", 1, 1), plain_sum(3, 4)), 5, "Shared(1)"),
                ((plain_sum(1, 2), ("least", 3, 0), plain_sum(2, 4)), 5, "Shared(2)"), ((plain_sum(1), plain_sum(3), plain_sum(3), ("least", 4, 5)), 6, "Shared(1)"),
                ((plain_sum(0, 1), ("greatest", 3, 3)), 4, "Shared(0)"), ((plain_sum(1, 2), ("greatest", 3, 3)), 4, "Shared(1)")):
            self.fails(by_parts, (world, lines, name), error)
        # What is shared comes ahead of what is too many, and what is no part ahead of what is shared.
        bent = shared([], [(0, 1, poly(0, 0, 3))])
        self.fails(by_parts, ((bent,) * 12, (plain_sum(*range(12)), plain_sum(11, 12)), 13), "Shared(11)")
        self.fails(by_parts, ((bent,) * 12, (plain_sum(*range(12)), ("choice", 0, "<", 0, 0, 0), plain_sum(11, 12, 13)), 14), "NotParts(13)")

    def test_too_many(self):
        wide = [shared([(Fraction(100 ** k, 7), 1), (Fraction(100 ** k, 3), 2)], [(0, 100 ** k, poly(1))]) for k in range(3)]
        world = tuple(wide) + (COIN, COIN, UNIT)
        for spread in world:
            self.assertIsNone(world_error((spread,)))
        three = joined(joined(wide[0], wide[1]), wide[2])
        self.assertTrue(50 < items_of(three) <= 100)
        self.gives(by_parts, (world, (plain_sum(0, 1, 2),), 6), three)
        # The sum of both coins has three items, one coin has two: either is too many for the sum of three.
        self.fails(by_parts, (world, (plain_sum(0, 1, 2), plain_sum(3, 4), plain_sum(6, 7)), 8), "TooMany(100)")
        self.fails(by_parts, (world, (plain_sum(0, 1, 2), plain_sum(3, 6)), 7), "TooMany(100)")
        self.gives(by_parts, (world, (plain_sum(0, 1, 2), plain_sum(5, 6)), 7), joined(three, UNIT))
        self.gives(by_parts, (world, (plain_sum(0, 1, 2), plain_sum(3, 4), ("greatest", 7, 6)), 8), greater(three, joined(COIN, COIN)))

    def test_a_sum_begins_with_its_constant(self):
        """So what has more than a hundred items can not be a term, even the only one, or one with the fraction 0 behind it."""
        parts = [shared([(Fraction(1, 5 + k), 1), (Fraction(2, 3 + k), 1)], [(10 ** k, 3 * 10 ** k, poly(1)), (4 * 10 ** k, 5 * 10 ** k, poly(1))]) for k in range(2)]
        parts.append(shared([], [(100, 300, poly(1)), (400, 700, poly(1))]))
        world = tuple(parts) + (UNIT,)
        for spread in world:
            self.assertIsNone(world_error((spread,)))
        long = joined(joined(parts[0], parts[1]), parts[2])
        self.assertGreater(items_of(long), 100)
        self.gives(by_parts, (world, (plain_sum(0, 1, 2),), 4), long)
        self.gives(by_parts, (world, (plain_sum(0, 1, 2), ("greatest", 3, 4)), 5), greater(UNIT, long))
        self.fails(by_parts, (world, (plain_sum(0, 1, 2), plain_sum(4)), 5), "TooMany(100)")
        self.fails(by_parts, (world, (plain_sum(0, 1, 2), plain_sum(3, 4)), 5), "TooMany(100)")
        # Grown by 0 it is a lump alone.
        self.gives(by_parts, (world, (plain_sum(0, 1, 2), ("sum", ((ONE, 3), (NONE, 4)), NONE)), 5), UNIT)

    def test_great_degrees(self):
        bent = shared([], [(0, 1, poly(0, 0, 3))])
        twelve = (bent,) * 12
        spread = by_parts(twelve, (plain_sum(*range(6)), plain_sum(*range(6, 12)), ("greatest", 12, 13)), 14)
        self.assertEqual(max(len(p) - 1 for _, _, p in spread[1]), 35)
        self.assertIsNone(spread_error(spread))
        self.gives(by_parts, (twelve, (plain_sum(*range(12)),), 12), joined_often_twice(bent))

    def test_long_worlds(self):
        self.assertEqual(MAX_LONG, 12)
        start = time.time()
        self.gives(by_parts, ((UNIT,) * 12, (plain_sum(*range(12)),), 12), joined_often(UNIT, 12))
        most = shared([(0, 1), (1, 1)], [(0, 1, poly(1, 0, 1)), (1, 2, poly(2)), (2, 3, poly(0, 0, 1))])
        self.assertIsNone(world_error((most,)))
        halves = [("greatest", 0, 1), ("least", 12, 2), ("greatest", 13, 3), ("sum", ((ONE, 4), (LESS, 5)), NONE)]
        spread = by_parts((most,) * 6 + (UNIT,) * 6, tuple(halves) + (plain_sum(*range(6, 12)),), 15)
        self.assertIsNone(spread_error(spread))
        self.assertIsNone(spread_error(by_parts((most,) * 12, tuple(halves), 14)))
        self.assertLess(time.time() - start, 20)


def items_of(spread):
    """How many lumps and pieces a spread has."""
    return len(spread[0]) + len(spread[1])


def joined_often_twice(spread):
    """The sum of twelve numbers, as one of three sums of four."""
    four = joined_often(spread, 4)
    return joined(joined(four, four), four)


class TestUnlike(ValuesCase):

    def are_unlike(self, world, program, one, other, found, test):
        """Numbers that are found are numbers of the world, and what is told of them holds there."""
        if found is None:
            return
        self.assertTrue(is_numbers(world, found))
        values = all_values(program, found, NONE)
        self.assertTrue(test(values[one], values[other]))

    def test_drawn_ones(self):
        worlds = Worlds(Draw(1220))
        lot = worlds.lot
        told = {}
        for _ in range(160):
            world = worlds.world((1, 2), 6)
            program = worlds.program(len(world), lot.randint(1, 3), lot.randint(0, 1))
            if lot.random() < 0.6:
                # Two choices that differ by their word alone.
                a, b, x, y = [lot.randrange(len(world) + len(program)) for _ in range(4)]
                program += (constant(lot.choice([0, 1, Fraction(1, 2)])),)
                words = lot.choice([("<", "<="), ("<=", "<"), ("<", "="), ("=", "<=")])
                program += tuple(("choice", lot.choice([a, 0]), word, b, x, len(world) + len(program) - 1) for word in words[:1])
                program += (program[-1][:2] + words[1:] + program[-1][3:],)
            names = len(world) + len(program)
            one, other = lot.choice([(names - 1, names - 2), (names - 2, names - 1), (lot.randrange(names), lot.randrange(names))])
            places = [all_values(program, numbers, NONE) for numbers in numbers_of_all_parts(world, program, one, other)]
            unlike, above = self.told(unlike_at, world, program, one, other), self.told(above_at, world, program, one, other)
            self.assertEqual(unlike is None, all(values[one] == values[other] for values in places))
            self.assertEqual(above is None, all(values[one] <= values[other] for values in places))
            self.are_unlike(world, program, one, other, unlike, lambda a, b: a != b)
            self.are_unlike(world, program, one, other, above, lambda a, b: a > b)
            alike = surely_alike(world, program, one, other)
            self.gives(surely_alike, (world, program, one, other), total(world, program, [], ("=", one, other)) == 1)
            same = alike_in_spread(world, program, one, other)
            self.gives(alike_in_spread, (world, program, one, other),
                       spread_of(world, program, one, None) == spread_of(world, program, other, None))
            # What holds of them together.
            self.assertTrue(alike or unlike is not None)
            self.assertTrue(same or not alike)
            word = "nowhere" if unlike is None else "thin" if alike else "same" if same else "unlike"
            told[word] = told.get(word, 0) + 1
        self.assertTrue(all(told.get(word, 0) > 2 for word in ("nowhere", "thin", "unlike")), told)

    def test_at_a_line_alone(self):
        lines = (constant(0), constant(1), plain_sum(0, 1), ("choice", 4, "=", 3, 2, 3), plain_sum(3))
        found = unlike_at((UNIT, UNIT), lines, 5, 6)
        self.assertEqual(value(found[0]) + value(found[1]), 1)
        self.assertTrue(is_numbers((UNIT, UNIT), found))
        self.gives(surely_alike, ((UNIT, UNIT), lines, 5, 6), True)
        self.gives(above_at, ((UNIT, UNIT), lines, 5, 6), None)
        self.gives(alike_in_spread, ((UNIT, UNIT), lines, 5, 6), True)
        self.assertIsNotNone(above_at((UNIT, UNIT), lines, 6, 5))
        # Both draws at ends of pieces alone would make 2, or 0: there are no such numbers.
        for number in (0, 2):
            lines = (constant(0), constant(1), plain_sum(0, 1), constant(number), ("choice", 4, "=", 5, 2, 3))
            self.gives(unlike_at, ((UNIT, UNIT), lines, 6, 3), None)
            self.gives(surely_alike, ((UNIT, UNIT), lines, 6, 3), True)
            lumped = (((NONE, (1, 4)), (ONE, (1, 4))), ((NONE, ONE, (HALF,)),))
            self.gives(unlike_at, ((lumped, lumped), lines, 6, 3), (pair(number // 2), pair(number // 2)))
            self.gives(surely_alike, ((lumped, lumped), lines, 6, 3), False)
            self.gives(unlike_at, ((lumped, UNIT), lines, 6, 3), None)
        # At a point alone, with three draws.
        lines = (constant(0), constant(1), ("choice", 0, "=", 1, 3, 4), ("choice", 1, "=", 2, 3, 4), ("greatest", 5, 6))
        found = unlike_at((UNIT,) * 3, lines, 7, 4)
        self.assertTrue(found[0] == found[1] == found[2])
        self.gives(above_at, ((UNIT,) * 3, lines, 7, 4), None)
        self.assertEqual(len(set(above_at((UNIT,) * 3, lines, 4, 7))), 1)

    def test_at_lumps_alone(self):
        lines = (constant(Fraction(1, 2)), ("choice", 0, "=", 1, 0, 1), constant(7), ("choice", 0, "=", 1, 3, 0))
        # Names 2 and 1 are alike; name 4 is 7 where the draw is just 1/2.
        for world, alike in (((UNIT,), True), ((MIXED,), False), ((lump(HALF),), False), ((COIN,), True)):
            self.gives(surely_alike, (world, lines, 4, 0), alike)
            self.gives(unlike_at, (world, lines, 4, 0), (HALF,) if world != (COIN,) else None)
            self.gives(above_at, (world, lines, 4, 0), (HALF,) if world != (COIN,) else None)
            self.gives(above_at, (world, lines, 0, 4), None)
            self.gives(unlike_at, (world, lines, 2, 1), None)
            self.gives(alike_in_spread, (world, lines, 4, 0), alike)

    def test_places_between_ends(self):
        parted = shared([], [(0, 1, poly(1)), (2, 3, poly(1))])
        for low, high in ((0, 1), (1, 2), (Fraction(1, 2), Fraction(5, 2)), (3, 9), (1, Fraction(21, 10)), (-2, 0)):
            lines = (constant(low), constant(high), ("least", 0, 2), ("greatest", 1, 3))
            # Name 4 is the draw, but held between low and high; name 1 is low.
            found = above_at((parted,), lines, 4, 1)
            self.are_unlike((parted,), lines, 4, 1, found, lambda a, b: a > b)
            inside = [Fraction(k, 100) for k in list(range(1, 100)) + list(range(201, 300))]
            self.assertEqual(found is not None, any(max(Fraction(low), min(x, Fraction(high))) > low for x in inside))
            held = (constant(low), constant(high), ("choice", 0, "<", 1, 1, 2), ("choice", 2, "<", 0, 1, 3), constant(low))
            found = unlike_at((parted,), held, 4, 5)
            self.are_unlike((parted,), held, 4, 5, found, lambda a, b: a != b)
            self.assertEqual(found is not None, any(low <= x <= high for x in inside))

    def test_errors(self):
        led = (("shift", 0, NONE), ("greatest", 0, 2), plain_sum(0))
        for work in (unlike_at, above_at, surely_alike, alike_in_spread):
            for one, other in ((2, 0), (0, 2), (3, 3), (1, 3)):
                self.fails(work, ((UNIT, UNIT), led, one, other), "Unfit()")
            self.told(work, (UNIT, UNIT), led, 4, 0)
            for draws, limit in ((3, 4), (2, 6)):
                lines = (("greatest", 0, 1),) + tuple(("greatest", 0, draws + k) for k in range(3)) + (("sum", ((ONE, 0),), NONE),)
                for first, second in itertools.product(range(5), repeat=2):
                    one, other = (draws + first - 1 if first else 0), (draws + second - 1 if second else draws + 4)
                    if max(first, second) + 1 > limit:
                        self.fails(work, ((UNIT,) * draws, lines, one, other), f"TooMany({limit})")
                        self.fails(work, ((lump(NONE),) * draws, lines, one, other), f"TooMany({limit})")
                    else:
                        self.told(work, (UNIT,) * draws, lines, one, other)
            # Choices of both count, each once.
            lines = (("greatest", 0, 1), ("least", 0, 2), ("greatest", 1, 2), ("least", 1, 0))
            self.fails(work, ((UNIT,) * 3, lines + (plain_sum(3, 4), plain_sum(5, 6)), 7, 8), "TooMany(4)")
            self.told(work, (UNIT,) * 3, lines + (plain_sum(3, 4), plain_sum(4, 5)), 7, 8)
            self.fails(work, ((UNIT,) * 3, (("shift", 0, ONE),) + tuple(("greatest", 0, 0) for _ in range(4)) + (plain_sum(3, 4, 5, 6, 7),), 8, 0), "Unfit()")

    def test_time(self):
        world = tuple(shared([(Fraction(1, 3), 1)], [(0, 1, poly(1, 0, 1)), (1, 2, poly(1, Fraction(1, 7)))][:most - 1]) for most in (3, 2, 2))
        self.assertIsNone(world_error(world))
        lines = (("sum", ((ONE, 0), (HALF, 1), ((1, 3), 2)), (1, 7)), ("choice", 3, "=", 2, 0, 1), ("choice", 4, "=", 0, 3, 2), ("choice", 5, "=", 1, 2, 4),
                 ("choice", 5, "=", 1, 2, 4))
        start = time.time()
        self.assertIsNone(unlike_at(world, lines[:4], 6, 6))
        self.assertTrue(surely_alike(world, lines[:4], 6, 6))
        self.assertIsNone(unlike_at(world[:2], (lines[0][:1] + (lines[0][1][:2],) + lines[0][2:], ("choice", 2, "=", 1, 0, 1), ("choice", 3, "=", 0, 2, 1),
                                                ("choice", 4, "=", 1, 2, 3), ("choice", 5, "=", 0, 2, 3)), 6, 6))
        self.assertLess(time.time() - start, 10)


if __name__ == "__main__":
    unittest.main()
