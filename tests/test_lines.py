"""Curves of one unknown t: [J1] to [J4], and [A2] (d)."""

import itertools
import time
import unittest
from fractions import Fraction

from tests.oracle import Draw, chance_up_to, pair, poly, probes, shared, spread_places, step_knots, step_value, value
from tests.oracle_worlds import Worlds, at_t, constant, many, total
from tests.support import Case, run_examples
from unsureworks.chances import chance_given
from unsureworks.errors import NoChance, TooMany
from unsureworks.lines import chance_line, sooner
from unsureworks.making import kth
from unsureworks.numbers import plus
from unsureworks.roots import near, number_error, order_of
from unsureworks.spreads import even, heaped, lump, tent
from unsureworks.stepcurves import step_at, step_error, step_scaled, steps_added
from unsureworks.values import spread_of
from unsureworks.worlds import world_error

EXAMPLES = """
>>> from unsureworks.lines import chance_line, sooner
>>> from unsureworks.spreads import even, lump
>>> x, y = even((0, 1), (1, 1)), lump((3, 1))
>>> clock = (("sum", (), (0, 1)), ("shift", 1, (1, 1)))
>>> chance_line((x,), clock, ("<=", 0, 2), None)
((0, 1), (((0, 1), (0, 1), ((0, 1), (1, 1))), ((1, 1), (1, 1), ((1, 1),))))
>>> chance_line((y,), clock, ("=", 0, 2), None), chance_line((y,), clock, ("<", 0, 2), None)
(((0, 1), (((3, 1), (1, 1), ()),)), ((0, 1), (((3, 1), (0, 1), ((1, 1),)),)))
>>> two = (("sum", (((1, 1), 0), ((1, 1), 1)), (0, 1)), ("sum", (), (0, 1)), ("shift", 3, (1, 1)))
>>> chance_line((x, x), two, ("<=", 2, 4), None)[1]
(((0, 1), (0, 1), ((0, 1), (0, 1), (1, 2))), ((1, 1), (1, 2), ((-1, 1), (2, 1), (-1, 2))), ((2, 1), (1, 1), ((1, 1),)))
>>> chance_line((x, x), two, ("<=", 2, 4), ("<", 0, 1)) == chance_line((x, x), two, ("<=", 2, 4), None)
True
>>> chance_line((x,), clock, ("<=", 0, 0), ("<", 0, 2))
raises Unfit()
>>> half = lump((1, 2))
>>> sooner((x, half), (), 0, 1)
((None, False, (0, 1), True, 'same'), ((0, 1), False, (1, 2), False, 'more'), ((1, 2), True, (1, 1), False, 'less'), ((1, 1), True, None, False, 'same'))
>>> wide = ((((0, 1), (1, 2)), ((2, 1), (1, 2))), ())
>>> parts = sooner((wide, x, x), (("greatest", 1, 2),), 0, 3)
>>> [(low_in, high_in, word) for low, low_in, high, high_in, word in parts]
[(False, False, 'same'), (True, False, 'more'), (True, True, 'same'), (False, False, 'less'), (True, False, 'same')]
>>> [parts[0][2], parts[3][2], parts[2][0] == parts[2][2]]
[(0, 1), (2, 1), True]
>>> from unsureworks.roots import order_of
>>> order_of(parts[2][0], ("root", ((-1, 2), (0, 1), (1, 1)), (0, 1), (1, 1)))
0
"""

NONE, ONE, HALF, LESS, TWO = (0, 1), (1, 1), (1, 2), (-1, 1), (2, 1)
UNIT, COIN = even(NONE, ONE), (((NONE, HALF), (ONE, HALF)), ())
MIXED = (((HALF, HALF),), ((NONE, ONE, (HALF,)),))
CLOCK = (("sum", (), NONE), ("shift", 1, ONE))
SAY = ("<", 0, 1)
SAME = ((None, False, None, False, "same"),)


def steps(left, *items):
    """A step curve: triples of a knot, a value, and the factors of a polynomial."""
    return pair(left), tuple((pair(knot), pair(worth), poly(*factors)) for knot, worth, factors in items)


class TestChanceLine(Case):

    def is_line_of(self, world, program, saying, seen, step):
        """A step curve is, at its knots, between and beyond them, the chance with t put in."""
        self.assertIsNone(step_error(step))
        for t in probes(step_knots(step)) if step[1] else [Fraction(0), Fraction(1), Fraction(-7, 3)]:
            self.assertEqual(step_at(step, pair(t)), chance_given(world, at_t(program, t), saying, seen))

    def test_examples(self):
        run_examples(self, EXAMPLES)

    def test_drawn_ones(self):
        worlds = Worlds(Draw(1300))
        lot = worlds.lot
        knots = 0
        for _ in range(420):
            world = worlds.world()
            many_lines = lot.randint(1, 5)
            choices = lot.randint(0, min(2 if len(world) == 3 else 3, many_lines))
            program = worlds.program(len(world), many_lines, choices, True)
            names = len(world) + len(program)
            saying = worlds.saying(names, lot.randint(1, min(3, (4 if len(world) == 3 else 6) - choices)))
            seen = worlds.saying(len(world), 1) if lot.random() < 0.3 else None
            try:
                step = chance_line(world, program, saying, seen)
            except (NoChance, TooMany) as error:
                told = "NoChance()" if isinstance(error, NoChance) else f"TooMany({error.limit})"
                self.fails(chance_line, (world, program, saying, seen), told)
                continue
            self.gives(chance_line, (world, program, saying, seen), step)
            self.is_line_of(world, program, saying, seen, step)
            knots += len(step[1])
        self.assertGreater(knots, 300)

    def test_against_another_reckoning(self):
        worlds = Worlds(Draw(1301))
        for _ in range(60):
            world = worlds.world((1, 2), 4)
            program = worlds.program(len(world), 2, 1, True)
            saying = worlds.saying(len(world) + len(program), 2)
            step = chance_line(world, program, saying, None)
            for t in probes(step_knots(step))[::2] if step[1] else [Fraction(1, 3)]:
                self.assertEqual(step_value(step, t), total(world, at_t(program, t), [], saying))

    def test_each_word(self):
        for word, expected in (("<", steps(0, (0, 0, (0, Fraction(1, 2))), (Fraction(1, 2), Fraction(1, 4), (Fraction(1, 2), Fraction(1, 2))), (1, 1, (1,)))),
                               ("<=", steps(0, (0, 0, (0, Fraction(1, 2))), (Fraction(1, 2), Fraction(3, 4), (Fraction(1, 2), Fraction(1, 2))), (1, 1, (1,)))),
                               ("=", steps(0, (Fraction(1, 2), Fraction(1, 2), ())))):
            self.gives(chance_line, ((MIXED,), CLOCK, (word, 0, 2), None), expected)
        for word, expected in (("<", steps(1, (0, 1, (1, Fraction(-1, 2))), (Fraction(1, 2), Fraction(1, 4), (Fraction(1, 2), Fraction(-1, 2))), (1, 0, ()))),
                               ("<=", steps(1, (0, 1, (1, Fraction(-1, 2))), (Fraction(1, 2), Fraction(3, 4), (Fraction(1, 2), Fraction(-1, 2))), (1, 0, ()))),
                               ("=", steps(0, (Fraction(1, 2), Fraction(1, 2), ())))):
            self.gives(chance_line, ((MIXED,), CLOCK, (word, 2, 0), None), expected)
        self.gives(chance_line, ((COIN,), CLOCK, ("<=", 0, 2), None), steps(0, (0, Fraction(1, 2), (Fraction(1, 2),)), (1, 1, (1,))))
        self.gives(chance_line, ((COIN,), CLOCK, ("<", 0, 2), None), steps(0, (0, 0, (Fraction(1, 2),)), (1, Fraction(1, 2), (1,))))
        self.gives(chance_line, ((COIN,), CLOCK, ("=", 0, 2), None), steps(0, (0, Fraction(1, 2), ()), (1, Fraction(1, 2), ())))
        self.gives(chance_line, ((COIN,), CLOCK, ("not", ("=", 0, 2)), None), steps(1, (0, Fraction(1, 2), (1,)), (1, Fraction(1, 2), (1,))))

    def test_the_chance_up_to_t_is_what_is_heaped(self):
        worlds = Worlds(Draw(1302))
        for _ in range(60):
            world = worlds.world((1, 2, 3))
            draws = len(world)
            program = worlds.program(draws, 3, 1) + (constant(0), ("shift", draws + 3, ONE))
            name = worlds.lot.randrange(draws + 3)
            self.gives(chance_line, (world, program, ("<=", name, draws + 4), None), heaped(spread_of(world, program, name, None)))
            try:
                expected = heaped(spread_of(world, program, name, ("<", 0, draws + 2)))
            except NoChance:
                continue
            self.gives(chance_line, (world, program, ("<=", name, draws + 4), ("<", 0, draws + 2)), expected)

    def test_shifts(self):
        for by in (1, -1, Fraction(1, 3), Fraction(-7, 2)):
            for begin in (0, Fraction(5, 2)):
                program = (constant(begin), ("shift", 1, pair(by)))
                ends = sorted([(0 - begin) / Fraction(by), (1 - begin) / Fraction(by)])
                expected = steps(0 if by > 0 else 1, (ends[0], 0 if by > 0 else 1, (begin, by)), (ends[1], 1 if by > 0 else 0, (1,) if by > 0 else ()))
                self.gives(chance_line, ((UNIT,), program, ("<=", 0, 2), None), expected)
        # By 0 it stays what it is; shifts of shifts add up.
        self.gives(chance_line, ((UNIT,), (constant(Fraction(1, 3)), ("shift", 1, NONE)), ("<=", 0, 2), None), steps(Fraction(1, 3)))
        twice = (constant(0), ("shift", 1, HALF), ("shift", 2, HALF))
        self.gives(chance_line, ((UNIT,), twice, ("<=", 0, 3), None), chance_line((UNIT,), CLOCK, ("<=", 0, 2), None))
        back = (constant(Fraction(1, 4)), ("shift", 1, HALF), ("shift", 2, (-1, 2)))
        self.gives(chance_line, ((UNIT,), back, ("<=", 0, 3), None), steps(Fraction(1, 4)))
        # A draw and the same one, shifted; two draws, one of them shifted.
        self.gives(chance_line, ((UNIT,), (("shift", 0, ONE),), ("<", 0, 1), None), steps(0, (0, 0, (1,))))
        self.gives(chance_line, ((UNIT,), (("shift", 0, ONE),), ("=", 0, 1), None), steps(0, (0, 1, ())))
        self.gives(chance_line, ((UNIT,), (("shift", 0, ONE),), ("<=", 1, 0), None), steps(1, (0, 1, ())))
        self.gives(chance_line, ((UNIT, UNIT), (("shift", 0, ONE),), ("<", 2, 1), None),
                   steps(1, (-1, 1, (Fraction(1, 2), -1, Fraction(-1, 2))), (0, Fraction(1, 2), (Fraction(1, 2), -1, Fraction(1, 2))), (1, 0, ())))
        # Two shifts that meet at one t.
        meet = (("shift", 0, ONE), ("sum", ((ONE, 0),), TWO), ("shift", 2, LESS))
        self.gives(chance_line, ((UNIT,), meet, ("<", 1, 3), None), steps(1, (1, 0, ())))
        self.gives(chance_line, ((UNIT,), meet, ("<=", 1, 3), None), steps(1, (1, 1, ())))

    def test_without_t(self):
        worlds = Worlds(Draw(1303))
        for _ in range(60):
            world = worlds.world()
            program = worlds.program(len(world), 3, 1)
            saying, seen = worlds.saying(len(world) + 3, 1), worlds.saying(len(world) + 3, 1)
            try:
                expected = chance_given(world, program, saying, seen)
            except NoChance:
                self.fails(chance_line, (world, program, saying, seen), "NoChance()")
                continue
            self.gives(chance_line, (world, program, saying, seen), (expected, ()))
            # Lines that do not matter may shift.
            self.gives(chance_line, (world, program + (("shift", 0, ONE),), saying, seen), (expected, ()))

    def test_choices_that_take_in_t(self):
        capped = CLOCK + (("least", 0, 2), ("choice", 0, "<", 2, 1, 0), ("greatest", 2, 1))
        # Name 3 is the draw, or t if this is less: it is below 1/2 if the draw is, or t is.
        line = capped + (constant(Fraction(1, 2)),)
        self.gives(chance_line, ((UNIT,), line, ("<", 3, 6), None), steps(1, (Fraction(1, 2), Fraction(1, 2), (Fraction(1, 2),))))
        self.gives(chance_line, ((UNIT,), line, ("<=", 3, 6), None), steps(1, (Fraction(1, 2), 1, (Fraction(1, 2),))))
        # Name 4 is 0 if the draw is below t.
        self.gives(chance_line, ((UNIT,), line, ("<", 4, 6), None), steps(Fraction(1, 2), (Fraction(1, 2), Fraction(1, 2), (0, 1)), (1, 1, (1,))))
        # Name 5 is t, but not below 0.
        self.gives(chance_line, ((UNIT,), line, ("<", 0, 5), None), steps(0, (0, 0, (0, 1)), (1, 1, (1,))))
        self.gives(chance_line, ((COIN,), line, ("<=", 0, 5), None), steps(Fraction(1, 2), (1, 1, (1,))))
        self.gives(chance_line, ((COIN,), line, ("=", 0, 5), None), steps(Fraction(1, 2), (0, Fraction(1, 2), ()), (1, Fraction(1, 2), ())))

    def test_several_draws(self):
        three = (("sum", ((ONE, 0), (ONE, 1), (ONE, 2)), NONE), constant(0), ("shift", 4, ONE))
        self.gives(chance_line, ((UNIT,) * 3, three, ("<=", 3, 5), None), heaped(kth((spread_of((UNIT,) * 3, three, 3, None), lump((9, 1))), 0)))
        line = chance_line((UNIT, UNIT, COIN), three, ("and", ("<", 0, 5), ("and", ("<", 1, 5), ("<=", 2, 5))), None)
        self.assertEqual(line, steps(0, (0, 0, (0, 0, Fraction(1, 2))), (1, 1, (1,))))

    def test_errors(self):
        world = (UNIT, UNIT)
        led = (("shift", 0, ONE), ("greatest", 0, 2), ("greatest", 0, 1), ("greatest", 0, 4), ("greatest", 3, 5))
        for seen in (("<", 2, 0), ("=", 1, 3), ("or", SAY, ("<", 6, 0)), ("not", ("<", 3, 3))):
            self.fails(chance_line, (world, led, SAY, seen), "Unfit()")
            self.fails(chance_line, (world, led, many(("<", 6, 5), 4), seen), "Unfit()")
        never = ("=", 0, 1)
        self.fails(chance_line, (world, led, many(("<", 6, 0), 3), None), "TooMany(6)")
        self.fails(chance_line, (world, led, many(("<", 6, 0), 2), many(never, 1)), "TooMany(6)")
        self.fails(chance_line, (world, led, many(("<", 5, 2), 4), never), "TooMany(6)")
        self.fails(chance_line, (world, led, many(("<", 5, 2), 3), never), "NoChance()")
        self.fails(chance_line, (world, led, ("<", 2, 0), ("<", 1, 1)), "NoChance()")
        self.assertIsNone(step_error(self.told(chance_line, world, led, many(("<", 6, 1), 2), None)))
        self.assertIsNone(step_error(self.told(chance_line, world, led, many(("<", 2, 1), 4), many(SAY, 2))))
        self.fails(chance_line, (world, led, many(("<", 2, 1), 4), many(SAY, 3)), "TooMany(6)")
        three = (UNIT,) * 3
        clock = (("shift", 0, ONE), ("greatest", 1, 3))
        self.assertIsNone(step_error(self.told(chance_line, three, clock, many(("<", 4, 2), 2), SAY)))
        self.fails(chance_line, (three, clock, many(("<", 4, 2), 3), SAY), "TooMany(4)")
        self.fails(chance_line, (three, clock, many(("<", 4, 2), 3), ("<", 0, 0)), "TooMany(4)")
        self.fails(chance_line, (three, clock, many(("<", 4, 2), 3), ("<", 3, 0)), "Unfit()")

    def test_time(self):
        world = tuple(shared([], [(k, k + 1, poly(1, Fraction(k, 3), Fraction(1, 7))) for k in range(most)]) for most in (2, 2, 3))
        self.assertIsNone(world_error(world))
        lines = (("sum", ((ONE, 0), (HALF, 1), ((1, 3), 2)), (1, 7)), ("shift", 3, ONE), ("greatest", 4, 2), ("choice", 5, "<", 1, 0, 4), ("least", 6, 5),
                 ("shift", 7, LESS), ("sum", ((ONE, 8), (HALF, 0)), NONE))
        start = time.time()
        step = chance_line(world, lines, ("<", 9, 1), None)
        self.assertIsNone(step_error(step))
        self.assertGreater(len(step[1]), 10)
        step = chance_line(world, lines[:2], ("or", ("and", ("<", 4, 1), ("<", 2, 4)), ("and", ("not", ("<", 4, 0)), ("<=", 3, 4))), None)
        self.assertIsNone(step_error(step))
        self.assertLess(time.time() - start, 20)


class TestSooner(Case):

    def are_parts(self, world, program, one, other):
        """What sooner tells has the form that it should have, and is right at places in and between all parts."""
        parts = self.told(sooner, world, program, one, other)
        self.assertIs(type(parts), tuple)
        self.assertEqual((parts[0][0], parts[0][1], parts[-1][2], parts[-1][3]), (None, False, None, False))
        for ahead, part in zip(parts, parts[1:]):
            self.assertEqual(ahead[2], part[0])
            self.assertIsNone(number_error(part[0]))
            self.assertNotEqual(ahead[3], part[1])
            self.assertNotEqual(ahead[4], part[4])
        first, second = spread_of(world, program, one, None), spread_of(world, program, other, None)
        lead = steps_added(heaped(first), step_scaled(heaped(second), LESS))
        for low, low_in, high, high_in, word in parts:
            self.assertTrue(type(low_in) is bool and type(high_in) is bool and word in ("more", "same", "less"))
            if low is not None and high is not None:
                self.assertLessEqual(order_of(low, high), 0)
                if order_of(low, high) == 0:
                    self.assertTrue(low == high and low_in and high_in)
        for place in self.places(parts, spread_places(first, second)):
            inside = [part for part in parts if self.is_in(part, place)]
            self.assertEqual(len(inside), 1)
            worth = chance_up_to(first, value(place)) - chance_up_to(second, value(place))
            self.assertEqual(inside[0][4], "more" if worth > 0 else "less" if worth < 0 else "same")
            self.assertEqual(worth, step_value(lead, value(place)))
        return parts

    def places(self, parts, knots):
        """Fractions: those at which something is, between and beyond them, and just beside the ends of parts."""
        found = [pair(x) for x in probes(knots)]
        for part in parts[1:]:
            for width in ((1, 10 ** 6), (1, 10 ** 12)):
                place = near(part[0], width)
                found += [place, plus(place, width), plus(place, (-width[0], width[1]))]
        return found

    def is_in(self, part, place):
        """Whether a fraction lies in a part."""
        low, low_in, high, high_in, _ = part
        below = -1 if low is None else order_of(low, place)
        above = 1 if high is None else order_of(high, place)
        return (below < 0 or (below == 0 and low_in)) and (above > 0 or (above == 0 and high_in))

    def test_drawn_ones(self):
        worlds = Worlds(Draw(1310))
        lot = worlds.lot
        lone, roots = 0, 0
        for _ in range(120):
            world = worlds.world()
            program = worlds.program(len(world), 4, lot.randint(0, 2))
            names = len(world) + 4
            one, other = lot.randrange(names), lot.randrange(names)
            parts = self.are_parts(world, program, one, other)
            turned = {"more": "less", "less": "more", "same": "same"}
            back = sooner(world, program, other, one)
            self.assertEqual([(part[1], part[3], turned[part[4]]) for part in parts], [part[1:2] + part[3:] for part in back])
            for part, contrary in zip(parts[1:], back[1:]):
                self.assertEqual(order_of(part[0], contrary[0]), 0)
            lone += len([part for part in parts if part[0] is not None and part[0] == part[2]])
            roots += len([part for part in parts[1:] if len(part[0]) > 2])
        self.assertGreater(lone, 10)
        self.assertGreater(roots, 10)

    def test_one_name_and_itself(self):
        for world in ((UNIT,), (COIN,), (MIXED, UNIT)):
            lines = (("sum", ((ONE, 0),), NONE), ("greatest", 0, len(world)))
            for one, other in itertools.product((0, len(world), len(world) + 1), repeat=2):
                self.gives(sooner, (world, lines, one, other), SAME)
        self.gives(sooner, ((UNIT, UNIT), (), 0, 1), SAME)
        self.gives(sooner, ((UNIT, UNIT), (("sum", ((LESS, 1),), ONE),), 0, 2), SAME)

    def test_lumps_alone(self):
        self.gives(sooner, ((lump(NONE), lump(ONE)), (), 0, 1), ((None, False, NONE, False, "same"), (NONE, True, ONE, False, "more"), (ONE, True, None, False, "same")))
        self.gives(sooner, ((lump(NONE), lump(ONE)), (), 1, 0), ((None, False, NONE, False, "same"), (NONE, True, ONE, False, "less"), (ONE, True, None, False, "same")))
        self.gives(sooner, ((COIN, lump(HALF)), (), 0, 1),
                   ((None, False, NONE, False, "same"), (NONE, True, HALF, False, "more"), (HALF, True, ONE, False, "less"), (ONE, True, None, False, "same")))
        spread = (((NONE, HALF), (TWO, HALF)), ())
        self.gives(sooner, ((COIN, spread), (), 0, 1), ((None, False, ONE, False, "same"), (ONE, True, TWO, False, "more"), (TWO, True, None, False, "same")))

    def test_one_number_alone(self):
        """The lead is 0 at one number alone: where it goes from one side to the other, or comes back."""
        bent = shared([], [(-1, 1, poly(0, 0, 1))])
        # t ** 3 against t, both halved: they meet at 0 alone, and at both ends.
        self.gives(sooner, ((bent, even(LESS, ONE)), (), 0, 1),
                   ((None, False, LESS, True, "same"), (LESS, False, NONE, False, "more"), (NONE, True, NONE, True, "same"), (NONE, False, ONE, False, "less"),
                    (ONE, True, None, False, "same")))
        # A lump that makes up for what was behind, at this number alone.
        ahead, behind = shared([(1, 1)], [(1, 2, poly(1))]), shared([], [(0, 1, poly(1)), (1, 2, poly(1))])
        self.gives(sooner, ((ahead, behind), (), 0, 1),
                   ((None, False, NONE, True, "same"), (NONE, False, ONE, False, "less"), (ONE, True, None, False, "same")))
        touching = shared([(1, 1)], [(1, 2, poly(0, 2, -1))])
        self.are_parts((touching, even(NONE, TWO)), (), 0, 1)
        self.are_parts((even(NONE, TWO), touching), (), 0, 1)
        # Over a stretch, with its ends in or out.
        gap = shared([], [(0, 1, poly(1)), (2, 3, poly(1))])
        other = shared([(1, 1)], [(2, 3, poly(1))])
        self.gives(sooner, ((gap, other), (), 0, 1), ((None, False, NONE, True, "same"), (NONE, False, ONE, False, "more"), (ONE, True, None, False, "same")))
        later = shared([(Fraction(5, 2), 1)], [(0, 1, poly(1))])
        self.gives(sooner, ((gap, later), (), 0, 1),
                   ((None, False, TWO, True, "same"), (TWO, False, (5, 2), False, "more"), ((5, 2), True, (3, 1), False, "less"), ((3, 1), True, None, False, "same")))

    def test_places_that_are_no_fractions(self):
        parts = self.are_parts((tent(NONE, ONE, TWO), UNIT, UNIT), (("greatest", 1, 2),), 0, 3)
        self.assertEqual([part[4] for part in parts], ["same", "less", "same"])
        parts = self.are_parts(((((NONE, (1, 3)), (TWO, (2, 3))), ()), UNIT, UNIT), (("greatest", 1, 2),), 0, 3)
        self.assertEqual(order_of(parts[2][0], ("root", poly(-1, 0, 3), NONE, ONE)), 0)
        self.assertEqual(order_of(parts[3][2], TWO), 0)
        self.are_parts((UNIT, shared([(Fraction(1, 4), 1), (Fraction(3, 4), 1)], []), UNIT), (("greatest", 0, 2), ("least", 1, 3)), 4, 3)

    def test_errors(self):
        led = (("shift", 0, NONE), ("sum", ((NONE, 2),), NONE), ("greatest", 0, 3), ("sum", ((ONE, 0),), NONE))
        for name in (2, 3, 4):
            for other in (0, 2, 5):
                self.fails(sooner, ((UNIT, UNIT), led, name, other), "Unfit()")
                self.fails(sooner, ((UNIT, UNIT), led, other, name), "Unfit()")
        self.gives(sooner, ((UNIT, UNIT), led, 5, 1), SAME)
        # Four choices are as many as there may be, also with three draws.
        lines = (("greatest", 0, 1), ("greatest", 2, 3), ("least", 3, 0), ("choice", 4, "<", 5, 3, 1))
        self.are_parts((UNIT,) * 3, lines, 6, 5)


if __name__ == "__main__":
    unittest.main()
