"""What was seen, and what looks tell: [I1] to [I6], and [A2] (f)."""

import itertools
import time
import unittest
from fractions import Fraction

from tests.oracle import Draw, is_pair, pair, poly, probes, shared, spread_mean, spread_places, value
from tests.oracle_worlds import Worlds, constant, many, total
from tests.support import Case, run_examples
from unsureworks.chances import chance, chance_given, mean_of
from unsureworks.errors import NoChance, TooMany
from unsureworks.learnt import are_apart, helped, look, tie_at
from unsureworks.orders import never_worse_holds, never_worse_paper
from unsureworks.spreads import even, lump, spread_error
from unsureworks.values import spread_of
from unsureworks.worlds import world_error

EXAMPLES = """
>>> from unsureworks.learnt import are_apart, helped, look, tie_at
>>> from unsureworks.spreads import even
>>> unit = even((0, 1), (1, 1))
>>> program = (("sum", (), (1, 2)), ("sum", (((1, 1), 0), ((1, 1), 1)), (0, 1)), ("greatest", 0, 1))
>>> low, beside, less = ("<", 0, 2), ("<", 1, 2), ("<", 0, 1)
>>> are_apart((unit, unit), program, low, beside, None), are_apart((unit, unit), program, low, less, None)
(True, False)
>>> are_apart((unit, unit), program, low, beside, less)
False
>>> tie_at((unit, unit), program, 0, beside, None), tie_at((unit, unit), program, 4, less, None)
(None, None)
>>> t = tie_at((unit, unit), program, 0, less, None)
>>> 0 < t[0] < t[1]
True
>>> look((unit, unit), program, 3, ((1, 2), (1, 1)), None), look((unit, unit), program, 3, (), None)
(((1, 8), (3, 8), (1, 2)), ((1, 1),))
>>> look((unit, unit), program, 2, ((1, 2),), None)
((0, 1), (1, 1))
>>> helped((unit, unit), program, 0, 3, ((1, 1),), None), helped((unit, unit), program, 0, 1, ((1, 1),), None)
(((((1, 3), (1, 2)), ((2, 3), (1, 2))), ()), ((((1, 2), (1, 1)),), ()))
>>> helped((unit, unit), program, 0, 1, ((1, 4), (1, 2)), None)
((((1, 2), (1, 1)),), ())
"""

NONE, ONE, HALF, LESS, TWO = (0, 1), (1, 1), (1, 2), (-1, 1), (2, 1)
UNIT, COIN = even(NONE, ONE), (((NONE, HALF), (ONE, HALF)), ())
MIXED = (((HALF, HALF),), ((NONE, ONE, (HALF,)),))
SAY, NEVER, ALWAYS = ("<", 0, 1), ("<", 0, 0), ("=", 0, 0)
PROGRAM = (("sum", (), HALF), ("sum", ((ONE, 0), (ONE, 1)), NONE), ("greatest", 0, 1))


class LearntCase(Case):

    def drawn(self, seed, many_ones, sizes=(1, 2, 2, 3)):
        """Worlds, programs of three lines, and what draws them."""
        worlds = Worlds(Draw(seed))
        for _ in range(many_ones):
            world = worlds.world(sizes)
            yield worlds, world, worlds.program(len(world), 3, worlds.lot.randint(0, 1)), len(world) + 3


class TestAreApart(LearntCase):

    def test_examples(self):
        run_examples(self, EXAMPLES)

    def test_drawn_ones(self):
        told = []
        for worlds, world, program, names in self.drawn(1400, 140):
            saying, further = worlds.saying(names, 1), worlds.saying(names, 1)
            seen = worlds.lot.choice([None, None, worlds.saying(names, 1)])
            if worlds.lot.random() < 0.5:
                # Of two unlike draws, or of one, each compared with a fraction.
                program += (constant(worlds.lot.choice([0, Fraction(1, 2), 1])), constant(worlds.lot.choice([0, Fraction(1, 3), 1])))
                saying, further = ("<", 0, names), ("<=", len(world) - 1, names + 1)
            try:
                one, other = value(chance_given(world, program, saying, seen)), value(chance_given(world, program, further, seen))
            except NoChance:
                self.fails(are_apart, (world, program, saying, further, seen), "NoChance()")
                continue
            both = value(chance_given(world, program, ("and", saying, further), seen))
            self.gives(are_apart, (world, program, saying, further, seen), both == one * other)
            self.gives(are_apart, (world, program, further, saying, seen), both == one * other)
            self.gives(are_apart, (world, program, saying, saying, seen), one in (0, 1))
            told.append((both == one * other, 0 < one < 1 and 0 < other < 1))
        self.assertTrue(all(told.count((apart, True)) > 5 for apart in (True, False)))

    def test_against_another_reckoning(self):
        for worlds, world, program, names in self.drawn(1401, 30, (1, 2)):
            saying, further = worlds.saying(names, 1), worlds.saying(names, 1)
            one, other = total(world, program, [], saying), total(world, program, [], further)
            self.gives(are_apart, (world, program, saying, further, None), total(world, program, [], ("and", saying, further)) == one * other)

    def test_what_never_or_always_holds(self):
        for world in ((UNIT, UNIT), (COIN, MIXED)):
            for sure in (NEVER, ALWAYS, ("not", NEVER), ("not", ALWAYS)):
                for seen in (None, SAY, ALWAYS):
                    for saying in (SAY, ("<", 0, 2), sure):
                        self.gives(are_apart, (world, PROGRAM, saying, sure, seen), True)
                        self.gives(are_apart, (world, PROGRAM, sure, saying, seen), True)
        self.gives(are_apart, ((UNIT, UNIT), PROGRAM, SAY, ("=", 0, 1), None), True)
        self.gives(are_apart, ((UNIT, UNIT), PROGRAM, SAY, ("<", 1, 0), None), False)
        self.gives(are_apart, ((UNIT, UNIT), PROGRAM, ("<", 0, 2), ("<", 1, 0), SAY), True)

    def test_errors(self):
        led = (("shift", 0, ONE),) + tuple(("greatest", 0, 1) for _ in range(4)) + (("sum", ((ONE, 3), (ONE, 4), (ONE, 5), (ONE, 6)), NONE),)
        world, bad = (UNIT, UNIT), ("<", 2, 0)
        for args in ((bad, SAY, None), (SAY, bad, None), (SAY, SAY, bad), (bad, many(("<", 7, 0), 4), NEVER), (many(("<", 7, 0), 4), NEVER, bad)):
            self.fails(are_apart, (world, led) + args, "Unfit()")
        self.fails(are_apart, (world, led, ("<", 7, 0), SAY, NEVER), "TooMany(6)")
        self.fails(are_apart, (world, led, ("<", 7, 0), SAY, SAY), "TooMany(6)")
        self.gives(are_apart, (world, led, ("<", 7, 0), SAY, None), True)
        self.fails(are_apart, (world, led, many(SAY, 2), many(SAY, 2), many(SAY, 3)), "TooMany(6)")
        self.gives(are_apart, (world, led, many(SAY, 2), many(SAY, 2), many(SAY, 2)), True)
        self.fails(are_apart, (world, led, many(SAY, 2), many(SAY, 2), many(NEVER, 2)), "NoChance()")
        self.fails(are_apart, ((UNIT,) * 3, (), many(SAY, 2), SAY, many(NEVER, 2)), "TooMany(4)")
        self.fails(are_apart, ((UNIT,) * 3, (), many(SAY, 2), SAY, NEVER), "NoChance()")


class TestTieAt(LearntCase):

    def apart_at(self, world, program, name, saying, seen, t):
        """Whether the name being at most t and the saying are apart."""
        lines = program + (constant(t),)
        up_to = ("<=", name, len(world) + len(program))
        one, other = value(chance_given(world, lines, up_to, seen)), value(chance_given(world, lines, saying, seen))
        return value(chance_given(world, lines, ("and", up_to, saying), seen)) == one * other

    def test_drawn_ones(self):
        told = []
        for worlds, world, program, names in self.drawn(1410, 160):
            name, saying = worlds.lot.randrange(names), worlds.saying(names, 1)
            seen = worlds.lot.choice([None, None, worlds.saying(names, 1)])
            try:
                found = tie_at(world, program, name, saying, seen)
            except NoChance:
                self.fails(tie_at, (world, program, name, saying, seen), "NoChance()")
                continue
            self.gives(tie_at, (world, program, name, saying, seen), found)
            if found is not None:
                self.assertTrue(is_pair(found))
                self.assertFalse(self.apart_at(world, program, name, saying, seen, value(found)))
            else:
                places = spread_places(spread_of(world, program, name, seen))
                if chance_given(world, program, saying, seen) != NONE:
                    both = saying if seen is None else ("and", saying, seen)
                    places = sorted(set(places + spread_places(spread_of(world, program, name, both))))
                for t in probes(places):
                    self.assertTrue(self.apart_at(world, program, name, saying, seen, t))
                # Apart from all that compares the name with fractions.
                lines = program + (constant(places[0]), constant(places[-1] - Fraction(1, 3)))
                for further in (("<", name, names), ("=", name, names), ("and", ("<", names, name), ("<=", name, names + 1))):
                    try:
                        self.assertTrue(are_apart(world, lines, saying, further, seen))
                    except TooMany:
                        self.assertEqual(len(world), 3)
            told.append(found is None)
        self.assertGreater(min(told.count(True), told.count(False)), 20)

    def test_only_at_some_places(self):
        lines = PROGRAM + (("choice", 0, "<", 2, 2, 0),)
        # Name 5 is x, but not below 1/2: up to there it tells nothing.
        self.gives(tie_at, ((UNIT, UNIT), lines, 5, ("<", 1, 2), None), None)
        for saying in (("<", 0, 2), ("<", 2, 0), SAY):
            found = tie_at((UNIT, UNIT), lines, 5, saying, None)
            self.assertTrue(Fraction(1, 2) <= value(found) < 1)
            self.assertTrue(self.apart_at((UNIT, UNIT), lines, 5, saying, None, Fraction(1, 3)))

    def test_only_at_lumps(self):
        self.gives(tie_at, ((COIN, UNIT), (constant(0),), 1, ("=", 0, 2), None), None)
        found = tie_at((COIN, UNIT), (constant(0),), 0, ("=", 0, 2), None)
        self.assertTrue(0 <= value(found) < 1)
        found = tie_at((COIN, COIN), (("greatest", 0, 1),), 2, ("=", 0, 1), None)
        self.assertTrue(0 <= value(found) < 1)
        # From the one lump to the next one, which is near.
        close = ((((0, 1), (1, 2)), ((1, 10 ** 5), (1, 2))), ())
        found = tie_at((close,), (constant(0),), 0, ("=", 0, 1), None)
        self.assertTrue(0 <= value(found) < Fraction(1, 10 ** 5))
        # A name with pieces, the saying telling of its lump alone: x at most 1/2 is so with the lump, and with half of the rest.
        found = tie_at((MIXED,), (constant(Fraction(1, 2)),), 0, ("=", 0, 1), None)
        self.assertFalse(self.apart_at((MIXED,), (constant(Fraction(1, 2)),), 0, ("=", 0, 1), None, value(found)))

    def test_where_the_ties_make_up_for_each_other(self):
        """The difference is 0 at some places within a stretch, but not at all: the place that is told is none of these."""
        lines = (constant(Fraction(1, 4)), constant(Fraction(3, 4)), constant(Fraction(1, 2)))
        # Of the middle one half is up to 1/2, as of all.
        middle = ("and", ("<", 1, 0), ("<", 0, 2))
        found = tie_at((UNIT,), lines, 0, middle, None)
        self.assertFalse(self.apart_at((UNIT,), lines, 0, middle, None, value(found)))
        self.assertTrue(self.apart_at((UNIT,), lines, 0, middle, None, Fraction(1, 2)))
        # Lumps at both ends, and a saying that tells of neither: within the piece the difference is a line that is 0 once.
        between = ("and", ("<", 1, 0), ("<", 0, 2))
        lines = (constant(0), constant(1))
        for low, high in itertools.product(range(1, 6), repeat=2):
            world = (shared([(0, low), (2, high)], [(0, 1, poly(6))]),)
            found = tie_at(world, lines, 0, between, None)
            self.assertFalse(self.apart_at(world, lines, 0, between, None, value(found)))
            self.assertTrue(self.apart_at(world, lines, 0, between, None, Fraction(low, low + high)))

    def test_errors(self):
        led = (("shift", 0, ONE),) + tuple(("greatest", 0, 1) for _ in range(4)) + (("sum", ((ONE, 3), (ONE, 4), (ONE, 5), (ONE, 6)), NONE), ("sum", ((ONE, 2),), NONE))
        world, bad = (UNIT, UNIT), ("<", 8, 0)
        for args in ((2, SAY, None), (8, SAY, None), (0, bad, None), (0, SAY, bad), (8, many(("<", 7, 0), 4), NEVER), (7, many(("<", 7, 0), 4), bad)):
            self.fails(tie_at, (world, led) + args, "Unfit()")
        self.gives(tie_at, (world, led, 7, SAY, None), None)
        self.fails(tie_at, (world, led, 7, SAY, SAY), "TooMany(6)")
        self.fails(tie_at, (world, led, 7, SAY, NEVER), "TooMany(6)")
        self.fails(tie_at, (world, led, 7, many(SAY, 2), None), "TooMany(6)")
        self.fails(tie_at, (world, led, 0, many(SAY, 3), many(SAY, 3)), "TooMany(6)")
        self.gives(tie_at, (world, led, 0, many(SAY, 3), many(SAY, 2)), None)
        self.fails(tie_at, (world, led, 0, many(SAY, 3), many(NEVER, 2)), "NoChance()")
        three = (UNIT,) * 3
        self.assertIsNotNone(self.told(tie_at, three, (("greatest", 0, 1),), 3, ("<", 0, 2), ("<", 1, 2)))
        self.fails(tie_at, (three, (("greatest", 0, 1),), 3, many(SAY, 2), SAY), "TooMany(4)")
        self.fails(tie_at, (three, (), 0, many(SAY, 4), None), "TooMany(4)")
        self.fails(tie_at, (three, (), 0, many(SAY, 2), NEVER), "NoChance()")


class TestLook(LearntCase):

    def test_drawn_ones(self):
        for worlds, world, program, names in self.drawn(1420, 80, (1, 2, 2)):
            name, seen = worlds.lot.randrange(names), worlds.lot.choice([None, worlds.saying(names, 1)])
            cuts = tuple(pair(x) for x in sorted({Fraction(worlds.lot.randint(-6, 8), 2) for _ in range(worlds.lot.randint(0, 4))}))
            try:
                found = look(world, program, name, cuts, seen)
            except NoChance:
                self.fails(look, (world, program, name, cuts, seen), "NoChance()")
                continue
            self.gives(look, (world, program, name, cuts, seen), found)
            self.assertEqual(len(found), len(cuts) + 1)
            self.assertEqual(sum(value(f) for f in found), 1)
            below = Fraction(0)
            for cut, share in zip(cuts, found):
                below += value(share)
                lines = program + (("sum", (), cut),)
                self.assertEqual(below, value(chance_given(world, lines, ("<", name, names), seen)))

    def test_cuts(self):
        half_lump = ((MIXED,), ())
        self.gives(look, half_lump + (0, (HALF,), None), ((1, 4), (3, 4)))
        self.gives(look, half_lump + (0, (NONE,), None), (NONE, ONE))
        self.gives(look, half_lump + (0, (ONE,), None), (ONE, NONE))
        self.gives(look, half_lump + (0, ((1, 4), HALF, (3, 4)), None), ((1, 8), (1, 8), (5, 8), (1, 8)))
        self.gives(look, half_lump + (0, ((-9, 1), (-8, 1), HALF, (7, 1), (8, 1)), None), (NONE, NONE, (1, 4), (3, 4), NONE, NONE))
        self.gives(look, ((COIN,), (), 0, (NONE, HALF, ONE), None), (NONE, HALF, NONE, HALF))
        self.gives(look, ((COIN, UNIT), (), 0, (HALF, ONE), SAY), (ONE, NONE, NONE))
        self.gives(look, ((COIN, UNIT), (), 1, (), SAY), (ONE,))
        self.gives(look, ((UNIT,), (constant(Fraction(1, 3)),), 1, ((1, 3),), None), (NONE, ONE))
        twenty = tuple(pair(Fraction(k, 20)) for k in range(20))
        self.gives(look, ((UNIT,), (), 0, twenty, None), (NONE,) + ((1, 20),) * 20)

    def test_errors(self):
        self.two_more(look, lambda name, seen: (name, (), seen))
        self.two_more(look, lambda name, seen: (name, (NONE, HALF), seen))
        self.two_more(helped, lambda name, seen: (name, 0, (), seen))
        self.two_more(helped, lambda name, seen: (0, name, (), seen))
        self.two_more(helped, lambda name, seen: (name, name, (HALF,), seen))

    def two_more(self, work, args):
        """What is refused: two more are counted than the choices and what is compared."""
        led = (("greatest", 0, 1), ("greatest", 0, 2), ("greatest", 0, 3), ("greatest", 0, 4), ("shift", 0, ONE), ("sum", ((ONE, 6), (ONE, 5)), NONE))
        world = (UNIT, UNIT)
        for name, seen in ((6, None), (7, None), (0, ("<", 7, 0)), (7, many(NEVER, 4)), (6, ("=", 0, 1)), (5, ("and", NEVER, ("<", 6, 0)))):
            self.fails(work, (world, led) + args(name, seen), "Unfit()")
        for choices, compared in itertools.product(range(5), range(5)):
            name = 1 + choices if choices else 0
            for draws, limit in ((2, 6), (3, 4)):
                lines = (("greatest", 0, 1),) + tuple(("greatest", 0, draws + k) for k in range(3))
                name = draws + choices - 1 if choices else 0
                seen = many(SAY, compared) if compared else None
                if choices + compared + 2 > limit:
                    self.fails(work, ((UNIT,) * draws, lines) + args(name, seen), f"TooMany({limit})")
                    if compared:
                        self.fails(work, ((UNIT,) * draws, lines) + args(name, many(NEVER, compared)), f"TooMany({limit})")
                else:
                    self.told(work, (UNIT,) * draws, lines, *args(name, seen))
                    if compared:
                        self.fails(work, ((UNIT,) * draws, lines) + args(name, many(NEVER, compared)), "NoChance()")


class TestHelped(LearntCase):

    def test_drawn_ones(self):
        for worlds, world, program, names in self.drawn(1430, 80, (1, 2, 2)):
            name, looked = worlds.lot.randrange(names), worlds.lot.randrange(names)
            seen = worlds.lot.choice([None, worlds.saying(names, 1)])
            cuts = tuple(pair(x) for x in sorted({Fraction(worlds.lot.randint(-6, 8), 2) for _ in range(worlds.lot.randint(0, 4))}))
            try:
                found = helped(world, program, name, looked, cuts, seen)
            except NoChance:
                self.fails(helped, (world, program, name, looked, cuts, seen), "NoChance()")
                continue
            self.gives(helped, (world, program, name, looked, cuts, seen), found)
            self.assertIsNone(spread_error(found))
            self.assertEqual(found[1], ())
            self.assertEqual(spread_mean(found), value(mean_of(world, program, name, seen)))
            weights = {}
            lines = program + tuple(("sum", (), cut) for cut in cuts)
            for place, share in enumerate(look(world, program, looked, cuts, seen)):
                if share == NONE:
                    continue
                within = [("<=", names + place - 1, looked)] * (place > 0) + [("<", looked, names + place)] * (place < len(cuts))
                within += [] if seen is None else [seen]
                given = None
                for part in within:
                    given = part if given is None else ("and", given, part)
                mean = value(mean_of(world, lines, name, given))
                weights[mean] = weights.get(mean, 0) + value(share)
            self.assertEqual(found[0], tuple((pair(mean), pair(weights[mean])) for mean in sorted(weights)))

    def test_a_cut_more_helps_at_least_as_much(self):
        for worlds, world, program, names in self.drawn(1431, 40, (1, 2, 3)):
            name, looked = worlds.lot.randrange(names), worlds.lot.randrange(names)
            all_cuts = tuple(pair(x) for x in sorted({Fraction(worlds.lot.randint(-6, 8), 2) for _ in range(4)}))
            left_out = worlds.lot.randrange(len(all_cuts))
            fewer = all_cuts[:left_out] + all_cuts[left_out + 1:]
            try:
                one, other = helped(world, program, name, looked, fewer, None), helped(world, program, name, looked, all_cuts, None)
            except TooMany:
                continue
            self.assertTrue(never_worse_holds(one, other, never_worse_paper(one, other)))

    def test_stretches(self):
        world = (UNIT, UNIT)
        self.gives(helped, (world, PROGRAM, 0, 0, (HALF,), None), ((((1, 4), HALF), ((3, 4), HALF)), ()))
        self.gives(helped, (world, PROGRAM, 0, 0, (), None), lump(HALF))
        self.gives(helped, (world, PROGRAM, 0, 0, ((-1, 1), (7, 1)), None), lump(HALF))
        self.gives(helped, (world, PROGRAM, 2, 0, (HALF,), None), lump(HALF))
        self.gives(helped, (world, PROGRAM, 0, 2, (HALF,), None), lump(HALF))
        self.gives(helped, (world, PROGRAM, 3, 0, (HALF,), None), ((((3, 4), HALF), ((5, 4), HALF)), ()))
        self.gives(helped, (world, PROGRAM, 0, 3, (ONE,), SAY), ((((1, 6), HALF), (HALF, HALF)), ()))
        # A lump of the one that is looked at belongs to the stretch above.
        self.gives(helped, ((MIXED,), (), 0, 0, (HALF,), None), ((((1, 4), (1, 4)), (pair((Fraction(1, 4) + Fraction(3, 16)) / Fraction(3, 4)), (3, 4))), ()))
        self.gives(helped, ((COIN, COIN), (("sum", ((ONE, 0), (LESS, 1)), NONE),), 2, 0, (ONE,), None), ((((-1, 2), HALF), (HALF, HALF)), ()))
        # Means below 0 and at 0, the same mean of stretches that are not beside one another.
        self.gives(helped, ((even(LESS, ONE),), (("greatest", 0, 0), ("sum", ((LESS, 0),), NONE), ("greatest", 0, 2)), 3, 0, ((-1, 2), NONE, HALF), None),
                   ((((1, 4), HALF), ((3, 4), HALF)), ()))
        self.gives(helped, ((even(LESS, ONE),), (), 0, 0, (NONE,), None), ((((-1, 2), HALF), (HALF, HALF)), ()))
        self.gives(helped, ((even(LESS, ONE), UNIT), (), 0, 1, (HALF,), None), lump(NONE))

    def test_given_one_and_then_the_other(self):
        for worlds, world, program, names in self.drawn(1432, 30, (2,)):
            one, other = worlds.saying(names, 1), worlds.saying(names, 1)
            cuts = (NONE, HALF)
            try:
                found = helped(world, program, names - 1, 0, cuts, ("and", one, other))
            except NoChance:
                continue
            self.gives(helped, (world, program, names - 1, 0, cuts, ("and", other, one)), found)
            self.gives(look, (world, program, names - 1, cuts, ("and", other, one)), look(world, program, names - 1, cuts, ("and", one, other)))

    def test_time(self):
        world = tuple(shared([], [(k, k + 1, poly(1, Fraction(k, 3), Fraction(1, 7))) for k in range(most)]) for most in (2, 2, 3))
        self.assertIsNone(world_error(world))
        lines = (("sum", ((ONE, 0), (HALF, 1), ((1, 3), 2)), (1, 7)), ("choice", 3, "<", 2, 0, 1), ("greatest", 4, 3), ("least", 5, 1))
        cuts = tuple(pair(Fraction(k, 7)) for k in range(20))
        start = time.time()
        self.assertIsNone(spread_error(helped(world, lines, 5, 4, cuts, None)))
        self.assertEqual(sum(value(f) for f in look(world, lines, 5, cuts, None)), 1)
        tie_at(world, lines, 5, ("<", 3, 1), None)
        are_apart(world, lines, ("<", 5, 1), ("<", 3, 0), None)
        self.assertEqual(chance(world, lines, ("<", 6, 6)), NONE)
        self.assertLess(time.time() - start, 20)


if __name__ == "__main__":
    unittest.main()
