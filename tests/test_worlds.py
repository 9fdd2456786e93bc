"""Worlds: [F9], and what [F10] tells of them."""

import itertools
import unittest
from fractions import Fraction

from tests.oracle import (Draw, is_pair, pair, poly, shared, value)
from tests.support import ODD_VALUES, Case, run_examples
from unsureworks.bounds import MAX_BOXES, MAX_DRAWS, MAX_GREAT
from unsureworks.spreads import even, lump, spread_error, tent
from unsureworks.worlds import is_numbers, world_error

EXAMPLES = """
>>> none, one, half = (0, 1), (1, 1), (1, 2)
>>> from unsureworks.worlds import is_numbers, world_error
>>> E = ((), ((none, one, (one,)),))
>>> V = (((none, (1, 4)), (one, (1, 4))), (((2, 1), (3, 1), ((1, 4),)), ((4, 1), (5, 1), ((1, 4),))))
>>> world_error((E, V)), world_error((V, V)), world_error(()), world_error((E, ((), ()))), world_error((E, (((none, one), ((1000000, 1), none)), ())))
(None, 'boxes', 'form', ('draw', 1, 'spread'), ('draw', 1, 'spread'))
>>> world_error((((((1000000, 1), one),), ()),)), [is_numbers((E, V), value) for value in ((half, one), (half, (5, 2)), (half, half), (one, one), (half,))]
(('draw', 0, 'great'), [True, True, False, False, False])
"""

NONE, ONE, HALF = (0, 1), (1, 1), (1, 2)
TOP = 10 ** 6 - 1


def parts(lumps, pieces):
    """A spread with so many lumps and pieces."""
    return shared([(k, 1) for k in range(lumps)], [(10 + 2 * k, 11 + 2 * k, poly(1)) for k in range(pieces)])


PLAIN = even(NONE, ONE)
V = parts(2, 2)
BENT = shared([], [(0, 1, poly(0, 0, 1))])
CUBE = shared([], [(0, 1, poly(0, 0, 0, 1))])


class TestWorldError(Case):

    def test_examples(self):
        run_examples(self, EXAMPLES)

    def test_worlds(self):
        for spread in (PLAIN, lump(HALF), tent(NONE, ONE, (2, 1)), V, BENT, parts(2, 3), parts(0, 3), parts(2, 0), parts(1, 1)):
            self.assertIsNone(spread_error(spread))
            self.gives(world_error, ((spread,),), None)
            self.gives(world_error, ((spread, PLAIN),), None)
            self.gives(world_error, ((lump(NONE), spread, PLAIN),), None)

    def test_form(self):
        self.assertEqual(MAX_DRAWS, 3)
        for odd in ODD_VALUES:
            if not isinstance(odd, tuple) or len(odd) == 0 or len(odd) > 3:
                self.gives(world_error, (odd,), "form")
        for odd in ((), [PLAIN], {0: PLAIN}, (PLAIN,) * 4, (None,) * 4, "even", [PLAIN, PLAIN]):
            self.gives(world_error, (odd,), "form")
        self.gives(world_error, ((PLAIN,) * 3,), None)

    def test_spread(self):
        bad = ODD_VALUES + [(), ((), ()), list(PLAIN), ((), list(PLAIN[1])), shared([(0, 1)], [(0, 1, poly(1))])[::-1], (((NONE, HALF),), ()),
                            (((NONE, ONE), (ONE, NONE)), ()), ((), ((NONE, ONE, (ONE, NONE)),)), ((), ((NONE, ONE, ((-1, 1), (4, 1))),)),
                            (((NONE, HALF),), PLAIN[1]), ((), ((NONE, HALF, ((2, 1),)), (HALF, ONE, ((2, 1),))))]
        for odd in bad:
            self.assertIsNotNone(spread_error(odd))
            self.gives(world_error, ((odd,),), ("draw", 0, "spread"))
            self.gives(world_error, ((PLAIN, odd),), ("draw", 1, "spread"))
            self.gives(world_error, ((PLAIN, V, odd),), ("draw", 2, "spread"))
            self.gives(world_error, ((odd, odd, CUBE),), ("draw", 0, "spread"))
            self.gives(world_error, ((CUBE, odd),), ("draw", 0, "degree"))

    def test_lumps_pieces_degree(self):
        self.gives(world_error, ((parts(2, 1),),), None)
        self.gives(world_error, ((parts(3, 1),),), ("draw", 0, "lumps"))
        self.gives(world_error, ((parts(3, 0), PLAIN),), ("draw", 0, "lumps"))
        self.gives(world_error, ((parts(1, 3),),), None)
        self.gives(world_error, ((parts(1, 4),),), ("draw", 0, "pieces"))
        self.gives(world_error, ((PLAIN, parts(0, 4)),), ("draw", 1, "pieces"))
        self.gives(world_error, ((BENT,),), None)
        self.gives(world_error, ((CUBE,),), ("draw", 0, "degree"))
        self.gives(world_error, ((PLAIN, PLAIN, shared([], [(0, 1, poly(1)), (1, 2, poly(0, 0, 0, 1))])),), ("draw", 2, "degree"))

    def great(self, spread, expected):
        self.assertIsNone(spread_error(spread))
        self.gives(world_error, ((spread,),), ("draw", 0, "great") if expected else None)
        self.gives(world_error, ((PLAIN, spread),), ("draw", 1, "great") if expected else None)

    def test_great(self):
        self.assertEqual(MAX_GREAT, 10 ** 6)
        for number, expected in ((TOP, False), (TOP + 1, True), (-TOP, False), (-TOP - 1, True), (Fraction(1, TOP), False), (Fraction(1, TOP + 1), True),
                                 (Fraction(-1, TOP), False), (Fraction(-1, TOP + 1), True), (Fraction(TOP, TOP - 1), False), (Fraction(TOP + 2, TOP), True),
                                 (Fraction(TOP, TOP + 2), True), (10 ** 39, True), (0, False)):
            self.great(lump(pair(number)), expected)
            self.great(shared([(number, 1)], [(5, 6, poly(1))]), expected)
        for number, expected in ((TOP, False), (TOP + 1, True)):
            # The weight of a lump, the low or the high of a piece, a factor of its polynomial.
            self.great(shared([(0, 1), (1, number - 1)], []), expected)
            self.great((((NONE, (1, number)),), (((1, 1), (2, 1), (pair(Fraction(number - 1, number)),)),)), expected)
            self.great(even((number - 1, 1), (number, 1)), expected)
            self.great(even((-number, 1), (1 - number, 1)), expected)
            self.great(even((0, 1), (1, number)), expected)
            self.great(even((0, 1), (number, 1)), expected)
        tilted = shared([], [(0, 1, poly(Fraction(10 ** 6 + 1, 2), Fraction(-1, 1)))])
        self.assertTrue(max(max(abs(top), bottom) for top, bottom in tilted[1][0][2]) >= 10 ** 6)
        self.great(tilted, True)
        self.great(shared([], [(0, 1, poly(Fraction(10 ** 5 + 1, 2), Fraction(-1, 1)))]), False)

    def test_boxes(self):
        self.assertEqual(MAX_BOXES, 12)
        kinds = [parts(a, b) for a, b in ((0, 1), (1, 0), (1, 1), (0, 2), (1, 2), (0, 3), (2, 2), (1, 3), (2, 3), (2, 0))]
        for many in (1, 2, 3):
            for world in itertools.product(kinds, repeat=many):
                boxes = 1
                for lumps, curve in world:
                    boxes *= len(lumps) + len(curve)
                self.assertEqual(repr(world_error(world)), repr("boxes" if boxes > 12 else None))
        self.gives(world_error, ((parts(1, 2), V),), None)
        self.gives(world_error, ((parts(2, 3), parts(1, 2)),), "boxes")
        self.gives(world_error, ((parts(1, 1), parts(1, 2), parts(0, 2)),), None)
        self.gives(world_error, ((parts(1, 1), parts(1, 1), V),), "boxes")

    def test_the_first_word(self):
        many = shared([(k, 1) for k in range(3)], [(2 * k, 2 * k + 1, poly(0, 0, 0, 1)) for k in range(4)])
        self.gives(world_error, ((many,),), ("draw", 0, "lumps"))
        pieces = shared([], [(2 * k, 2 * k + 1, poly(0, 0, 0, 1)) for k in range(4)])
        self.gives(world_error, ((pieces,),), ("draw", 0, "pieces"))
        self.gives(world_error, ((shared([(10 ** 7, 1)], [(0, 1, poly(0, 0, 0, 1))]),),), ("draw", 0, "degree"))
        self.gives(world_error, ((lump((10 ** 7, 1)), CUBE),), ("draw", 0, "great"))
        self.gives(world_error, ((V, V, CUBE),), ("draw", 2, "degree"))
        self.gives(world_error, ((V, CUBE, None),), ("draw", 1, "degree"))
        self.gives(world_error, ((V, V, V, CUBE),), "form")

    def test_great_values(self):
        rough = poly(*[Fraction(10 ** 39 - k, 10 ** 38 + k) for k in range(41)])
        self.gives(world_error, ((((), ((NONE, ONE, rough),)),),), ("draw", 0, "spread"))
        self.gives(world_error, ((shared([], [(0, 1, rough)]),),), ("draw", 0, "degree"))


class TestIsNumbers(Case):

    def test_some(self):
        spread = (((NONE, (1, 4)), ((3, 1), (1, 4))), ((ONE, (2, 1), ((1, 4),)), ((5, 1), (6, 1), ((1, 4),))))
        for number, expected in ((0, True), (3, True), (1, False), (2, False), (5, False), (6, False), (Fraction(3, 2), True), (Fraction(11, 2), True),
                                 (4, False), (-1, False), (7, False), (Fraction(1, 2), False), (1 + Fraction(1, 10 ** 39), True), (1 - Fraction(1, 10 ** 39), False),
                                 (6 - Fraction(1, 10 ** 39), True), (Fraction(1, 10 ** 39), False)):
            self.gives(is_numbers, ((spread,), (pair(number),)), expected)
            self.gives(is_numbers, ((spread, PLAIN), (pair(number), HALF)), expected)
            self.gives(is_numbers, ((PLAIN, lump(ONE), spread), (HALF, ONE, pair(number))), expected)
            self.gives(is_numbers, ((PLAIN, lump(ONE), spread), (ONE, ONE, pair(number))), False)

    def test_pieces_that_touch_and_lumps_at_knots(self):
        touching = shared([], [(0, 1, poly(1)), (1, 2, poly(2))])
        self.gives(is_numbers, ((touching,), (ONE,)), False)
        lumped = shared([(1, 1)], [(0, 1, poly(1)), (1, 2, poly(2))])
        self.gives(is_numbers, ((lumped,), (ONE,)), True)
        self.gives(is_numbers, ((lumped,), (HALF,)), True)
        self.gives(is_numbers, ((lumped,), (NONE,)), False)
        inner = shared([(Fraction(1, 2), 1)], [(0, 1, poly(1))])
        self.gives(is_numbers, ((inner,), (HALF,)), True)
        # Where its polynomial is 0 a place lies within the piece as well.
        dip = shared([], [(0, 2, poly(1, -2, 1))])
        self.gives(is_numbers, ((dip,), (ONE,)), True)

    def test_any_value(self):
        for odd in ODD_VALUES + [(), (HALF,), (HALF, HALF, HALF), [HALF, HALF], (HALF, None), (None, HALF), (HALF, [1, 2]), ([1, 2], HALF), (HALF, (2, 4)),
                                 ((2, 4), HALF), (HALF, (True, 2)), ((True, 2), HALF), HALF, (1, 2), {0: HALF, 1: HALF}, ((HALF, HALF),), (0, 0),
                                 (Fraction(1, 2), HALF), "11"]:
            self.gives(is_numbers, ((PLAIN, PLAIN), odd), False)
            if not (is_pair(odd) and 0 < value(odd) < 1):
                self.gives(is_numbers, ((PLAIN,), (odd,)), False)
        self.gives(is_numbers, ((PLAIN, PLAIN), (HALF, HALF)), True)
        self.gives(is_numbers, ((lump(ONE),), ((True, 1),)), False)
        self.gives(is_numbers, ((lump(ONE),), (ONE,)), True)
        self.gives(is_numbers, ((lump(ONE),), [ONE]), False)
        self.gives(is_numbers, ((lump(ONE),), ((1, True),)), False)

    def test_drawn_ones(self):
        draw = Draw(800)
        told = []
        for _ in range(200):
            world = tuple(draw.lot.choice([PLAIN, V, lump(ONE), tent(NONE, ONE, (2, 1)), parts(1, 3)]) for _ in range(draw.lot.randint(1, 2)))
            numbers = tuple(pair(draw.lot.choice([0, 1, Fraction(1, 2), Fraction(21, 2), 12, draw.small() + 10])) for _ in world)
            expected = all(any(number == place for place, _ in lumps) or any(value(low) < value(number) < value(high) for low, high, _ in curve)
                           for number, (lumps, curve) in zip(numbers, world))
            told.append(expected)
            self.gives(is_numbers, (world, numbers), expected)
        self.assertGreater(min(told.count(True), told.count(False)), 25)


if __name__ == "__main__":
    unittest.main()
