"""Bodies: [F6] and [F7]."""

import itertools
import unittest

from tests.oracle import Draw, body_holds, is_pair, pair, shares_paper, value
from tests.support import ODD_VALUES, PARAMETERS, Case, run_examples
from unsureworks.bodies import no_point_holds, point_in
from unsureworks.bounds import MAX_BODY
from unsureworks.errors import NoPoint

EXAMPLES = """
>>> none, one, half = (0, 1), (1, 1), (1, 2)
>>> from unsureworks.bodies import no_point_holds, point_in
>>> x, y = ((one, none), none, none), ((none, one), none, none)
>>> less, more = ((one, (-1, 1)), none, none), (((-1, 1), one), none, none)
>>> point_in(2, ((((one, none), (-1, 1), none), "="), (((none, one), none, none), "=")))[0]
((1, 1), (0, 1))
>>> [no_point_holds(2, ((less, "<"), (more, "<")), paper) for paper in ((one, one), (one, none), (none, none), [one, one])]
[True, False, False, False]
>>> no_point_holds(2, ((less, "<="), (more, "<=")), (one, one)), no_point_holds(1, ((((one,), one, none), "="), (((one,), none, none), "=")), ((1, 1), (-1, 1)))
(False, True)
"""

NONE, ONE, HALF, LESS = (0, 1), (1, 1), (1, 2), (-1, 1)
GREAT = 10 ** 40 - 1


def form(*numbers):
    """A form: its factors, its constant, and by behind them."""
    numbers = [pair(number) for number in numbers]
    return tuple(numbers[:-2]), numbers[-2], numbers[-1]


class BodyCase(Case):

    def some(self, draws, body):
        """There is a point, and the body holds there."""
        point = self.told(point_in, draws, body)
        self.assertEqual((type(point), len(point), type(point[0]), len(point[0])), (tuple, 2, tuple, draws))
        self.assertTrue(all(is_pair(number) for number in point[0]) and is_pair(point[1]))
        self.assertTrue(body_holds(body, *point), (body, point))
        return point

    def none(self, draws, body):
        """There is no point, as a paper shows."""
        papers = []
        named = dict(zip(PARAMETERS["point_in"].split(), (draws, body)))
        for call in (lambda: point_in(draws, body), lambda: point_in(**named)):
            with self.assertRaises(NoPoint) as caught:
                call()
            papers.append(caught.exception.paper)
        self.assertEqual(papers[0], papers[1])
        self.assertTrue(shares_paper(draws, body, papers[0]), (body, papers[0]))
        self.gives(no_point_holds, (draws, body, papers[0]), True)
        return papers[0]

    def either(self, draws, body):
        try:
            point_in(draws, body)
        except NoPoint:
            self.none(draws, body)
            return "paper"
        self.some(draws, body)
        return "point"


class TestPointIn(BodyCase):

    def test_examples(self):
        run_examples(self, EXAMPLES)

    def test_no_comparisons(self):
        for draws in (1, 2, 3):
            self.some(draws, ())

    def test_single_points(self):
        for draws in (1, 2, 3):
            for spot in ((0,) * 4, (1, -2, 3, -4), (HALF, (1, 3), (GREAT, GREAT - 1), (-1, GREAT))):
                spot = [number if isinstance(number, tuple) else pair(number) for number in spot]
                numbers = spot[:draws] + spot[-1:]
                forms = [(tuple(ONE if k == place else NONE for k in range(draws)), (-top, bottom), ONE if place == draws else NONE)
                         for place, (top, bottom) in enumerate(numbers)]
                expected = tuple(numbers[:-1]), numbers[-1]
                self.gives(point_in, (draws, tuple((f, "=") for f in forms)), expected)
                turned = [(tuple((-a, b) for a, b in f[0]), (-f[1][0], f[1][1]), (-f[2][0], f[2][1])) for f in forms]
                self.gives(point_in, (draws, tuple((f, "<=") for f in forms + turned)), expected)
                for place in range(len(forms)):
                    words = ["<=" if k != place else "<" for k in range(len(forms))]
                    self.none(draws, tuple(zip(forms, words)) + tuple((f, "<=") for f in turned))

    def test_lines_and_planes(self):
        level = (form(1, -1, 0, 0), "=")
        self.some(2, (level,))
        self.some(2, (level, (form(1, 1, -1, 0), "<")))
        point = self.some(2, (level, (form(1, 1, -1, 0), "=")))
        self.assertEqual(point[0], (HALF, HALF))
        self.some(3, ((form(1, -1, 0, 0, 0), "="), (form(0, 1, -1, 0, 0), "="), (form(-1, 0, 0, 5, 0), "<")))
        self.none(3, ((form(1, -1, 0, 0, 0), "="), (form(0, 1, -1, 0, 0), "="), (form(-1, 0, 1, 0, 0), "<")))
        self.none(3, ((form(1, -1, 0, 0, 0), "="), (form(0, 1, -1, 0, 0), "="), (form(-1, 0, 1, 1, 0), "=")))

    def test_forms_without_factors(self):
        for number, words in ((0, ("<=", "=")), (-1, ("<", "<=")), (1, ()), (pair(GREAT), ())):
            number = value(number) if isinstance(number, tuple) else number
            for word in ("<", "<=", "="):
                body = ((form(0, 0, number, 0), word),)
                if word in words:
                    self.some(2, body)
                    self.some(2, body * 12)
                    self.some(2, body + ((form(1, 1, -7, 0), "="),))
                else:
                    self.none(2, body)
                    self.none(2, body * 12)
                    self.none(2, ((form(1, 1, -7, 0), "<"),) + body)

    def test_with_t(self):
        self.assertEqual(self.some(1, ((form(0, -3, 1), "="),))[1], (3, 1))
        self.some(1, ((form(1, 0, -1), "<"), (form(-1, 0, 0), "<=")))
        self.none(1, ((form(1, 0, -1), "<"), (form(-1, 0, 1), "<=")))
        self.none(1, ((form(0, 0, 1), "<"), (form(0, 0, -1), "<=")))
        self.some(1, ((form(0, 0, 1), "<="), (form(0, 0, -1), "<=")))
        self.none(2, ((form(1, 0, 0, 1), "<="), (form(-1, 1, 0, 0), "<="), (form(0, -1, 1, -1), "<=")))

    def test_only_just_empty(self):
        corner = [form(-1, 0, 0, 0), form(0, -1, 0, 0), form(1, 1, 0, 0)]
        for words in itertools.product(("<", "<=", "="), repeat=3):
            body = tuple(zip(corner, words))
            if "<" in words:
                self.none(2, body)
            else:
                self.assertEqual(self.some(2, body)[0], (NONE, NONE))
        # All distances from the sides of a triangle are 0 together at no point, or at one.
        for room, words, told in ((0, ("<=",) * 3, True), (0, ("<",) * 3, False), (-1, ("<",) * 3, True), (1, ("<=",) * 3, False),
                                  (1, ("=", "<=", "<="), False)):
            self.assertEqual(self.either(2, tuple(zip([form(-1, 0, 0, 0), form(0, -1, 0, 0), form(1, 1, room, 0)], words))) == "point", told)
        tiny = value((1, GREAT))
        self.none(1, ((form(1, 0, 0), "<"), (form(-1, tiny, 0), "<")))
        self.some(1, ((form(1, -tiny, 0), "<"), (form(-1, 0, 0), "<")))
        self.some(1, ((form(1, -tiny, 0), "<="), (form(-1, tiny, 0), "<=")))
        self.none(1, ((form(1, -tiny, 0), "<="), (form(-1, tiny, 0), "<")))

    def test_without_bounds(self):
        self.some(3, ((form(1, 0, 0, 5, 0), "<"),))
        self.some(3, ((form(1, 0, 0, 5, 0), "<"), (form(0, 1, 0, -GREAT, 0), "="), (form(0, 0, -1, 0, 0), "<=")))
        self.some(2, ((form(1, -1, 0, 0), "<"), (form(0, 1, GREAT, 0), "<")))
        self.none(2, ((form(1, -1, 0, 0), "<"), (form(0, 1, GREAT, 0), "<"), (form(-1, 0, -GREAT, 0), "<=")))

    def test_as_many_as_can_be(self):
        self.assertEqual(MAX_BODY, 12)
        cube = tuple((tuple((sign, 1) if k == place else NONE for k in range(3)), LESS, NONE) for place in range(3) for sign in (1, -1))
        octant = tuple((tuple((sign, 1) for sign in signs), (-3, 1), NONE) for signs in itertools.product((1, -1), repeat=3))
        self.some(3, tuple((f, "<") for f in cube + octant[:6]))
        self.assertEqual(self.some(3, tuple((f, "<=") for f in cube) + tuple((f, "=") for f in octant[:1]))[0], (ONE,) * 3)
        self.none(3, tuple((f, "<") for f in cube) + tuple((f, "=") for f in octant[:1]))
        self.none(3, tuple((f, "<") for f in cube) + ((form(-1, -1, -1, 3, 0), "<="),))

    def test_drawn_ones(self):
        draw = Draw(600)
        told = []
        for _ in range(700):
            draws = draw.lot.randint(1, 3)
            body = draw.body(draws, draw.lot.randint(1, 12 if draw.lot.random() < 0.5 else 5),
                             draw.lot.choice([("<", "<=", "="), ("<", "<="), ("<=", "<=", "<=", "="), ("<",)]))
            told.append(self.either(draws, body))
        self.assertGreater(min(told.count("point"), told.count("paper")), 200)

    def test_drawn_ones_with_a_point(self):
        """Comparisons that touch a point all hold there, but for those with "<"."""
        draw = Draw(601)
        for _ in range(200):
            draws = draw.lot.randint(1, 3)
            numbers, t = draw.point(draws)
            body = []
            for f, word in draw.body(draws, draw.lot.randint(1, 12)):
                now = sum((value(a) * value(b) for a, b in zip(f[0], numbers)), value(f[2]) * value(t))
                body.append(((f[0], pair(-now - (draw.lot.randint(1, 3) if word == "<" else 0)), f[2]), word))
            self.some(draws, tuple(body))
            strict = tuple((f, "<") for f, _ in body)
            self.either(draws, strict)

    def test_great_numbers(self):
        draw = Draw(602)
        for _ in range(20):
            body = tuple(((tuple(pair(draw.number(10 ** 40 - 1)) for _ in range(3)), pair(draw.number(10 ** 39)), pair(draw.number(10 ** 39))),
                          draw.lot.choice(["<", "<=", "="])) for _ in range(draw.lot.randint(3, 12)))
            self.either(3, body)


class TestNoPointHolds(BodyCase):

    def is_told(self, draws, body, paper, expected):
        self.gives(no_point_holds, (draws, body, paper), expected)

    def test_any_value(self):
        body = ((form(1, 0, 0), "<"), (form(-1, 0, 0), "<"))
        for odd in ODD_VALUES + [(), (ONE,), (ONE, ONE, ONE), [ONE, ONE], ([1, 1], ONE), (ONE, None), (ONE, (2, 2)), (ONE, (True, 1)), (1, 1),
                                 ((1, 0), (1, 0)), "11", {0: ONE, 1: ONE}, ((ONE, ONE),), ("1", "1")]:
            self.is_told(1, body, odd, False)
            self.is_told(1, body, (ONE, odd), is_pair(odd) and odd == ONE)
            self.is_told(1, (), (odd,), False)
        self.is_told(1, body, (ONE, ONE), True)
        self.is_told(1, (), (), False)

    def test_words(self):
        up, down = form(1, 0, 0), form(-1, 0, 0)
        for first, second in itertools.product(("<", "<=", "="), repeat=2):
            body = ((up, first), (down, second))
            for shares in ((ONE, ONE), (HALF, HALF), ((GREAT, 7), (GREAT, 7)), (NONE, NONE), (LESS, LESS), (ONE, HALF), (ONE, LESS), (ONE, NONE)):
                self.is_told(1, body, shares, shares_paper(1, body, shares))
            self.is_told(1, body, (ONE, ONE), "<" in (first, second))
            self.is_told(1, body, (LESS, LESS), False)

    def test_shares_below_0(self):
        for first, second in itertools.product(("<", "<=", "="), repeat=2):
            body = ((form(1, 1, 0), first), (form(1, 0, 0), second))
            self.is_told(1, body, (ONE, LESS), second == "=")
            self.is_told(1, body, (LESS, ONE), False)
            body = ((form(1, -1, 0), first), (form(1, 0, 0), second))
            self.is_told(1, body, (LESS, ONE), first == "=")
        body = ((form(0, 0, 0), "<"), (form(0, 0, 0), "="))
        self.is_told(1, body, (ONE, LESS), True)
        self.is_told(1, body, (ONE, ONE), True)
        self.is_told(1, body, (NONE, ONE), False)
        self.is_told(1, body, (LESS, ONE), False)

    def test_sums(self):
        # A factor is left, by is left, or a constant that is not great enough.
        for numbers, expected in (((0, 0, 1, 0), True), ((0, 0, 0, 0), False), ((0, 0, -1, 0), False), ((1, 0, 1, 0), False),
                                  ((0, 1, 1, 0), False), ((0, 0, 1, 1), False), ((0, 0, 1, -1), False), ((0, 0, value((1, GREAT)), 0), True)):
            body = ((form(*numbers), "<="),)
            self.is_told(2, body, (ONE,), expected)
            self.is_told(2, body, ((1, GREAT),), expected)
            self.is_told(2, body, (NONE,), False)
        self.is_told(2, ((form(0, 0, 0, 0), "<"),), (ONE,), True)
        self.is_told(2, ((form(0, 0, -1, 0), "<"),), (ONE,), False)
        self.is_told(2, ((form(0, 0, 0, 0), "<"), (form(0, 0, -1, 0), "<=")), (ONE, ONE), False)
        self.is_told(2, ((form(0, 0, 0, 0), "<"), (form(0, 0, 0, 0), "<=")), (NONE, ONE), False)
        self.is_told(2, ((form(0, 0, -1, 0), "="),), (LESS,), True)
        self.is_told(2, ((form(0, 0, 1, 0), "="),), (LESS,), False)

    def test_changed_papers(self):
        draw = Draw(610)
        told = []
        for _ in range(150):
            draws = draw.lot.randint(1, 3)
            body = draw.body(draws, draw.lot.randint(4, 10))
            try:
                point_in(draws, body)
            except NoPoint as error:
                paper = list(error.paper)
            else:
                paper = [ONE] * len(body)
            for _ in range(4):
                changed = list(paper)
                place = draw.lot.randrange(len(body))
                changed[place] = draw.lot.choice([changed[place], NONE, ONE, (changed[place][0] * 3, 1), (-changed[place][0], 1)])
                changed = tuple(pair(value(share) * 2) for share in changed)
                told.append(shares_paper(draws, body, changed))
                self.is_told(draws, body, changed, told[-1])
                turned = tuple((f, "<" if word != "<" else "<=") for f, word in body)
                self.is_told(draws, turned, changed, shares_paper(draws, turned, changed))
        self.assertGreater(min(told.count(True), told.count(False)), 60)


if __name__ == "__main__":
    unittest.main()
