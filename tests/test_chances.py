"""Chances and means: [G3] to [G6], and [A2] (b)."""

import time
import unittest
from fractions import Fraction

from tests.oracle import Draw, pair, poly, shared, value
from tests.oracle_worlds import Worlds, constant, many, total
from tests.support import Case, run_examples
from unsureworks.bounds import MAX_COMPARED, MAX_MATTER, MAX_MATTER_THREE
from unsureworks.chances import chance, chance_given, mean_of, mean_product
from unsureworks.errors import NoChance, TooMany
from unsureworks.spreads import even, lump, mean, moment, tent
from unsureworks.worlds import world_error

EXAMPLES = """
>>> none, one = (0, 1), (1, 1)
>>> from unsureworks.chances import chance, chance_given, mean_of, mean_product
>>> even = ((), ((none, one, (one,)),))
>>> coin = (((none, (1, 2)), (one, (1, 2))), ())
>>> pair = (("sum", ((one, 0), (one, 1)), none), ("sum", (), (1, 2)))
>>> chance((even, even), (), ("<", 0, 1)), chance((even, even), (), ("=", 0, 1)), chance((even, even), pair, ("<=", 2, 3))
((1, 2), (0, 1), (1, 8))
>>> chance((coin, coin), (), ("=", 0, 1)), chance((coin, coin), (), ("<=", 0, 1)), chance((coin, even), (), ("<=", 0, 1))
((1, 2), (3, 4), (1, 2))
>>> chance((even, even), (), ("or", ("<", 0, 1), ("not", ("<", 0, 1)))), chance((even, even), pair, ("and", ("<", 0, 3), ("<", 3, 1)))
((1, 1), (1, 4))
>>> led = (("shift", 0, one),)
>>> chance((even, even), led, ("<", 0, 1))
(1, 2)
>>> chance((even, even), led, ("<", 2, 1))
raises Unfit()
>>> chain = (("greatest", 0, 1), ("least", 0, 1), ("greatest", 2, 3), ("least", 2, 3))
>>> chance((even, even), chain, ("and", ("<", 0, 4), ("<=", 5, 1)))
(1, 2)
>>> chance((even, even), chain, ("and", ("<", 0, 4), ("and", ("<=", 5, 1), ("<", 0, 1))))
raises TooMany(6)
>>> chance_given((even, even), pair, ("<=", 2, 3), ("<", 0, 1)), chance_given((even, even), pair, ("<", 0, 3), ("<=", 2, 3)), chance_given((coin, even), (), ("=", 0, 1), None)
((1, 8), (1, 1), (0, 1))
>>> chance_given((coin, coin), (("sum", ((one, 0), (one, 1)), none), ("sum", (), one)), ("=", 0, 1), ("<=", 2, 3))
(1, 3)
>>> chance_given((even, even), (), ("<", 0, 1), ("=", 0, 1))
raises NoChance()
>>> both = (("greatest", 0, 1), ("least", 0, 1))
>>> mean_of((even, even), both, 2, None), mean_of((even, even), both, 0, ("<", 0, 1)), mean_of((coin, even), both, 2, None)
((2, 3), (1, 3), (3, 4))
>>> mean_product((even, even), both, 0, 1, None), mean_product((even, even), both, 2, 3, None), mean_product((even, even), both, 2, 2, None)
((1, 4), (1, 4), (1, 2))
>>> mean_of((coin, coin), (("choice", 0, "<", 1, 1, 0),), 2, ("not", ("=", 0, 1))), mean_product((coin, even), (), 0, 1, ("<", 1, 0))
((1, 1), (1, 2))
"""

NONE, ONE, HALF, LESS = (0, 1), (1, 1), (1, 2), (-1, 1)
UNIT, COIN = even(NONE, ONE), (((NONE, HALF), (ONE, HALF)), ())
SAY = ("<", 0, 1)


class TestChance(Case):

    def test_examples(self):
        run_examples(self, EXAMPLES)

    def test_drawn_ones(self):
        worlds = Worlds(Draw(1100))
        lot = worlds.lot
        between = 0
        for _ in range(220):
            world = worlds.world((1, 2, 2), 8)
            many_lines = lot.randint(1, 3)
            program = worlds.program(len(world), many_lines, lot.randint(0, min(2, many_lines)))
            names = len(world) + len(program)
            saying, seen = worlds.saying(names, lot.randint(1, 2)), lot.choice([None, worlds.saying(names, 1)])
            one, other = lot.randrange(names), lot.randrange(names)
            expected = total(world, program, [], saying)
            between += 0 < expected < 1
            self.gives(chance, (world, program, saying), pair(expected))
            share = total(world, program, [], seen)
            if share == 0:
                for work, args in ((chance_given, (saying,)), (mean_of, (one,)), (mean_product, (one, other))):
                    self.fails(work, (world, program) + args + (seen,), "NoChance()")
                continue
            both = saying if seen is None else ("and", saying, seen)
            self.gives(chance_given, (world, program, saying, seen), pair(total(world, program, [], both) / share))
            self.gives(mean_of, (world, program, one, seen), pair(total(world, program, [one], seen) / share))
            self.gives(mean_product, (world, program, one, other, seen), pair(total(world, program, [one, other], seen) / share))
        self.assertGreater(between, 40)

    def test_three_draws(self):
        worlds = Worlds(Draw(1101))
        lot = worlds.lot
        for _ in range(25):
            world = worlds.world((3,), 3)
            program = worlds.program(3, 2, lot.randint(0, 1))
            saying = worlds.saying(5, 1)
            self.gives(chance, (world, program, saying), pair(total(world, program, [], saying)))
            self.gives(mean_of, (world, program, 4, None), pair(total(world, program, [4], None)))
        unit3 = (UNIT,) * 3
        self.gives(chance, (unit3, (), ("and", ("<", 0, 1), ("<", 1, 2))), (1, 6))
        self.gives(chance, (unit3, (("sum", ((ONE, 0), (ONE, 1), (ONE, 2)), NONE), constant(1)), ("<", 3, 4)), (1, 6))
        self.gives(chance, (unit3, (("sum", ((ONE, 0), (ONE, 1)), NONE),), ("<", 3, 2)), (1, 6))
        self.gives(mean_of, (unit3, (("greatest", 0, 1), ("greatest", 2, 3)), 4, None), (3, 4))
        self.gives(mean_product, (unit3, (("greatest", 0, 1), ("greatest", 2, 3)), 4, 4, None), (3, 5))
        self.gives(mean_of, (unit3, (), 0, ("and", ("<", 0, 1), ("<", 1, 2))), (1, 4))
        # Boxes in which one, two and three draws have a lump.
        mixed = (((NONE, HALF),), ((NONE, ONE, (HALF,)),))
        self.gives(chance, ((mixed,) * 3, (), ("=", 0, 1)), (1, 4))
        self.gives(chance, ((mixed,) * 3, (), ("and", ("=", 0, 1), ("=", 1, 2))), (1, 8))
        self.gives(chance, ((mixed,) * 3, (), ("and", ("<=", 0, 1), ("<=", 1, 2))), pair(Fraction(1, 8) + Fraction(1, 8) + Fraction(1, 8) * Fraction(1, 2) + Fraction(1, 48)))

    def test_chances_and_their_contraries(self):
        worlds = Worlds(Draw(1102))
        for _ in range(80):
            world = worlds.world()
            program = worlds.program(len(world), 4, 1)
            saying, seen = worlds.saying(len(world) + 4, 1), worlds.saying(len(world) + 4, 1)
            self.assertEqual(value(chance(world, program, saying)) + value(chance(world, program, ("not", saying))), 1)
            try:
                given = chance_given(world, program, saying, seen)
            except NoChance:
                self.assertEqual(chance(world, program, seen), NONE)
                continue
            self.assertEqual(value(given) + value(chance_given(world, program, ("not", saying), seen)), 1)
            self.assertEqual(chance_given(world, program, seen, seen), ONE)
            one, other = value(chance(world, program, saying)), value(chance(world, program, seen))
            self.assertEqual(value(given) * other, value(chance(world, program, ("and", saying, seen))))
            self.assertEqual(value(chance(world, program, ("or", saying, seen))), one + other - value(given) * other)

    def test_words_and_lumps_on_borders(self):
        lumped = (((NONE, (1, 4)), (ONE, (1, 4))), ((NONE, ONE, (HALF,)),))
        self.assertIsNone(world_error((lumped,)))
        for number, below, level in ((-1, 0, 0), (0, 0, Fraction(1, 4)), (Fraction(1, 2), Fraction(1, 2), 0), (1, Fraction(3, 4), Fraction(1, 4)), (2, 1, 0)):
            lines = (constant(number),)
            self.gives(chance, ((lumped,), lines, ("<", 0, 1)), pair(below))
            self.gives(chance, ((lumped,), lines, ("=", 0, 1)), pair(level))
            self.gives(chance, ((lumped,), lines, ("<=", 0, 1)), pair(below + level))
            self.gives(chance, ((lumped,), lines, ("<", 1, 0)), pair(1 - below - level))
            self.gives(chance, ((lumped,), lines, ("<=", 1, 0)), pair(1 - below))
            self.gives(chance, ((lumped,), lines, ("=", 1, 0)), pair(level))
        # Lumps against lumps, and against the ends of pieces.
        self.gives(chance, ((lumped, lumped), (), ("=", 0, 1)), (1, 8))
        self.gives(chance, ((lumped, UNIT), (), ("=", 0, 1)), NONE)
        self.gives(chance, ((lumped, UNIT), (), ("<=", 0, 1)), HALF)
        self.gives(chance, ((lumped, UNIT), (), ("<", 0, 1)), HALF)
        self.gives(chance, ((lump(HALF), lump(HALF)), (), ("=", 0, 1)), ONE)
        self.gives(chance, ((lump(HALF), lump(HALF)), (), ("<", 0, 1)), NONE)
        self.gives(chance, ((lump(HALF), lump((1, 3))), (), ("<", 1, 0)), ONE)

    def test_names_compared_with_themselves(self):
        for world in ((UNIT,), (COIN, UNIT), (lump(HALF), COIN, UNIT)):
            lines = (("sum", ((ONE, 0),), NONE), ("greatest", 0, len(world)))
            for name in range(len(world) + 2):
                self.gives(chance, (world, lines, ("=", name, name)), ONE)
                self.gives(chance, (world, lines, ("<=", name, name)), ONE)
                self.gives(chance, (world, lines, ("<", name, name)), NONE)
            # Other names of the same draw are alike to it everywhere.
            for a, b in ((0, len(world)), (len(world), len(world) + 1), (len(world) + 1, 0)):
                self.gives(chance, (world, lines, ("=", a, b)), ONE)
                self.gives(chance, (world, lines, ("<", a, b)), NONE)

    def test_alike_draws(self):
        for spread, level in ((UNIT, 0), (COIN, Fraction(1, 2)), ((((HALF, HALF),), ((NONE, ONE, (HALF,)),)), Fraction(1, 4))):
            self.gives(chance, ((spread, spread), (), ("=", 0, 1)), pair(level))
            self.gives(chance, ((spread, spread), (), ("<", 0, 1)), pair((1 - Fraction(level)) / 2))
            self.gives(chance, ((spread, spread), (), ("<=", 1, 0)), pair((1 + Fraction(level)) / 2))

    def test_pieces_of_each_degree(self):
        bent = shared([], [(0, 1, poly(0, 0, 1)), (1, 2, poly(0, 1)), (3, 4, poly(1))])
        self.assertIsNone(world_error((bent,)))
        whole = Fraction(1, 3) + Fraction(3, 2) + 1
        self.gives(chance, ((bent,), (constant(1),), ("<", 0, 1)), pair(Fraction(1, 3) / whole))
        self.gives(chance, ((bent,), (constant(Fraction(5, 2)),), ("<", 0, 1)), pair(Fraction(11, 6) / whole))
        for k, moment_of in ((1, mean(bent)), (2, moment(bent, 2))):
            if k == 1:
                self.gives(mean_of, ((bent,), (), 0, None), moment_of)
            else:
                self.gives(mean_product, ((bent,), (), 0, 0, None), moment_of)
        self.gives(chance, ((bent, bent), (), ("<", 0, 1)), HALF)

    def test_sayings(self):
        lines = (constant(Fraction(1, 3)), constant(Fraction(2, 3)))
        low, high = ("<", 0, 2), ("<", 3, 1)
        world = (UNIT, UNIT)
        for saying, expected in ((("and", low, high), Fraction(1, 9)), (("or", low, high), Fraction(5, 9)), (("not", low), Fraction(2, 3)),
                                 (("not", ("and", low, high)), Fraction(8, 9)), (("and", ("not", low), ("not", high)), Fraction(4, 9)),
                                 (("or", low, low), Fraction(1, 3)), (("and", low, ("not", low)), 0), (("or", ("and", low, high), ("not", low)), Fraction(7, 9)),
                                 (("and", ("or", low, high), ("not", ("and", low, high))), Fraction(4, 9))):
            self.gives(chance, (world, lines, saying), pair(expected))

    def test_lines_that_matter(self):
        world = (UNIT, UNIT)
        led = (("shift", 0, ONE), ("greatest", 0, 2), ("sum", ((ONE, 1),), NONE))
        self.gives(chance, (world, led, ("<", 0, 4)), HALF)
        for saying in (("<", 2, 0), ("<", 0, 3), ("not", ("=", 2, 2)), ("or", ("<", 0, 1), ("<", 1, 3))):
            self.fails(chance, (world, led, saying), "Unfit()")
            self.fails(chance_given, (world, led, saying, None), "Unfit()")
            self.fails(chance_given, (world, led, SAY, saying), "Unfit()")
            self.fails(mean_of, (world, led, 0, saying), "Unfit()")
            self.fails(mean_product, (world, led, 0, 1, saying), "Unfit()")
        for name in (2, 3):
            self.fails(mean_of, (world, led, name, None), "Unfit()")
            self.fails(mean_product, (world, led, name, 0, None), "Unfit()")
            self.fails(mean_product, (world, led, 0, name, None), "Unfit()")
        self.gives(mean_of, (world, led, 4, SAY), (2, 3))
        self.gives(mean_product, (world, led, 4, 0, None), (1, 4))
        # A shift by 0 is a shift as well.
        self.fails(mean_of, (world, (("shift", 0, NONE),), 2, None), "Unfit()")
        # Choices that do not matter are not counted, whatever they are.
        chain = tuple(("greatest", 0, k + 1) for k in range(4))
        self.gives(chance, (world, chain, many(SAY, 4)), HALF)
        self.gives(chance_given, (world, chain, many(SAY, 4), many(SAY, 2)), ONE)

    def test_too_many(self):
        self.assertEqual((MAX_MATTER, MAX_MATTER_THREE, MAX_COMPARED), (6, 4, 4))
        chain = (("greatest", 0, 1), ("greatest", 0, 2), ("greatest", 0, 3), ("greatest", 0, 4))
        for limit, worlds in ((6, ((UNIT, UNIT), (UNIT, COIN))), (4, ((UNIT, UNIT, UNIT), (COIN, lump(HALF), UNIT)))):
            for world in worlds:
                draws = len(world)
                lines = (("greatest", 0, 1),) + tuple(("greatest", 0, draws + k) for k in range(3))
                error = f"TooMany({limit})"
                for choices in range(5):
                    name = draws + choices - 1 if choices else 0
                    for compared in range(5):
                        for more in range(5):
                            count = choices + compared + more
                            seen = many(SAY, more) if more else None
                            self.counted(mean_of, (world, lines, name, many(SAY, compared) if compared else None), choices + compared > limit, error)
                            self.counted(mean_product, (world, lines, 0, name, seen), choices + more > limit, error)
                            self.counted(mean_product, (world, lines, name, 0, seen), choices + more > limit, error)
                            if compared == 0:
                                continue
                            saying = ("and", ("<=", 0, name), many(SAY, compared - 1)) if compared > 1 else ("<=", 0, name)
                            self.counted(chance, (world, lines, saying), choices + compared > limit, error)
                            self.counted(chance_given, (world, lines, saying, seen), count > limit, error)
                            if seen is not None:
                                self.counted(chance_given, (world, lines, seen, saying), count > limit, error)
        # A choice that several things hang on counts once, lines that choose nothing do not count.
        lines = chain + (("sum", ((ONE, 5), (ONE, 4)), NONE), ("sum", (), ONE))
        self.gives(mean_product, ((UNIT, UNIT), lines, 6, 5, ("and", ("<=", 4, 6), SAY)), ONE)
        self.fails(chance, ((UNIT, UNIT), lines, many(("<=", 6, 5), 3)), "TooMany(6)")

    def counted(self, work, args, refused, error):
        """A call is refused, or not."""
        if refused:
            with self.assertRaises(TooMany) as caught:
                work(*args)
            self.assertEqual(caught.exception.limit, int(error[8:-1]))
        else:
            self.assertIs(type(work(*args)), tuple)

    def test_the_order_of_errors(self):
        world = (UNIT, UNIT)
        never = ("=", 0, 1)
        led = (("shift", 0, ONE), ("greatest", 0, 1), ("greatest", 0, 1), ("greatest", 3, 4))
        self.fails(chance_given, (world, led, many(("<", 2, 5), 4), never), "Unfit()")
        self.fails(mean_of, (world, led, 2, many(never, 4)), "Unfit()")
        self.fails(chance_given, (world, led, many(("<", 0, 5), 3), never), "TooMany(6)")
        self.fails(mean_of, (world, led, 5, many(never, 4)), "TooMany(6)")
        self.fails(chance_given, (world, led, many(("<", 0, 5), 2), never), "NoChance()")
        self.fails(mean_of, (world, led, 5, many(never, 3)), "NoChance()")
        self.fails(mean_product, (world, led, 5, 0, ("<", 0, 0)), "NoChance()")
        self.fails(mean_product, (world, led, 5, 2, ("<", 0, 0)), "Unfit()")
        self.fails(chance_given, ((UNIT,) * 3, (), many(SAY, 3), many(never, 2)), "TooMany(4)")
        self.fails(chance_given, ((UNIT,) * 3, (), many(SAY, 2), many(never, 2)), "NoChance()")

    def test_seen(self):
        world = (COIN, UNIT)
        for always in (("=", 0, 0), ("<=", 1, 1), ("or", SAY, ("not", SAY)), ("not", ("<", 0, 0)), ("not", ("=", 0, 1))):
            self.gives(chance_given, (world, (), SAY, always), HALF)
            self.gives(mean_of, (world, (), 1, always), HALF)
        for never in (("<", 0, 0), ("=", 0, 1), ("and", SAY, ("not", SAY)), ("<", 0, 2)):
            lines = (constant(0),)
            for work, args in ((chance_given, (SAY,)), (mean_of, (0,)), (mean_product, (0, 1))):
                self.fails(work, (world, lines) + args + (never,), "NoChance()")
        # Six compared sayings in all.
        four = ("and", ("and", SAY, ("not", ("=", 0, 1))), ("and", ("<=", 0, 1), SAY))
        self.gives(chance_given, ((UNIT, UNIT), (), four, ("or", ("<", 1, 0), SAY)), HALF)
        self.gives(chance_given, ((UNIT, UNIT), (), ("or", ("<", 1, 0), SAY), four), ONE)

    def test_means(self):
        world = (UNIT, COIN)
        lines = (constant(Fraction(-7, 3)), ("sum", ((HALF, 0), ((-3, 1), 1)), ONE), ("greatest", 0, 1), ("least", 0, 1),
                 ("sum", ((ONE, 4), (ONE, 5)), NONE))
        self.gives(mean_of, (world, lines, 2, None), (-7, 3))
        self.gives(mean_of, (world, lines, 2, ("<", 0, 1)), (-7, 3))
        self.gives(mean_of, (world, lines, 3, None), pair(Fraction(1, 4) - Fraction(3, 2) + 1))
        self.gives(mean_of, (world, lines, 6, None), ONE)
        self.gives(mean_product, (world, lines, 2, 2, None), (49, 9))
        self.gives(mean_product, (world, lines, 2, 0, None), (-7, 6))
        self.gives(mean_product, (world, lines, 4, 5, None), (1, 4))
        self.gives(mean_product, (world, lines, 0, 0, None), (1, 3))
        self.gives(mean_product, (world, lines, 1, 1, ("<", 0, 1)), ONE)
        self.gives(mean_product, ((lump((2, 3)), lump((3, 5))), (), 0, 1, None), (2, 5))
        self.gives(mean_of, ((tent(NONE, ONE, (2, 1)),), (constant(1),), 0, ("<", 0, 1)), (2, 3))

    def test_in_whatever_order_sayings_are_seen(self):
        worlds = Worlds(Draw(1103))
        for _ in range(40):
            world = worlds.world()
            program = worlds.program(len(world), 3, 1)
            names = len(world) + 3
            one, other, saying = worlds.saying(names, 1), worlds.saying(names, 1), worlds.saying(names, 1)
            try:
                given = chance_given(world, program, saying, ("and", one, other))
            except NoChance:
                self.fails(chance_given, (world, program, saying, ("and", other, one)), "NoChance()")
                continue
            self.gives(chance_given, (world, program, saying, ("and", other, one)), given)
            self.gives(mean_of, (world, program, names - 1, ("and", other, one)), mean_of(world, program, names - 1, ("and", one, other)))

    def test_time(self):
        for draws, boxes in ((3, (1, 3, 4)), (3, (2, 2, 3)), (2, (3, 4))):
            world = tuple(shared([(Fraction(k, 2), 1) for k in range(max(0, most - 3))],
                                 [(k, k + 1, poly(1, Fraction(k, 3), Fraction(1, 7))) for k in range(min(most, 3))]) for most in boxes)
            self.assertIsNone(world_error(world))
            lines = (("sum", tuple((pair(k + 1), k) for k in range(draws)), (1, 7)), ("choice", 0, "<", 1, 0, draws), ("greatest", draws + 1, draws - 1),
                     ("sum", ((HALF, 0), (LESS, draws + 2)), ONE))
            sayings = [("<", 0, draws + 3)] + [("<=", 1, draws + 2)] * (1 if draws == 3 else 3)
            saying = sayings[0]
            for further in sayings[1:]:
                saying = ("or", ("not", saying), further)
            start = time.time()
            chance(world, lines, saying)
            mean_product(world, lines, draws + 3, draws + 2, saying)
            self.assertLess(time.time() - start, 10)


if __name__ == "__main__":
    unittest.main()
