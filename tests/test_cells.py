"""Cells: [F8], what [F10] tells of them, and [A2] (c)."""

import itertools
import unittest

from tests.oracle import Draw, all_values, body_holds, form_value, is_pair, is_said, pair, value
from tests.support import ODD_VALUES, Case, run_examples
from unsureworks.bodies import point_in
from unsureworks.bounds import MAX_BODY, MAX_CELLS, MAX_MATTER, MAX_MATTER_THREE
from unsureworks.cells import cells, cells_error, saying_cells
from unsureworks.errors import NoPoint
from unsureworks.forms import program_error, run

EXAMPLES = """
>>> none, one, half = (0, 1), (1, 1), (1, 2)
>>> P = (("sum", ((one, 0), ((-1, 1), 1)), none), ("greatest", 0, 1), ("shift", 3, (-1, 1)), ("choice", 4, "<=", 1, 0, 4))
>>> x, y = ((one, none), none, none), ((none, one), none, none)
>>> less, more = ((one, (-1, 1)), none, none), (((-1, 1), one), none, none)
>>> from unsureworks.cells import cells, cells_error, saying_cells
>>> C = ((((more, "<="),), x), (((less, "<"),), y))
>>> cells_error(2, P, 3, C), cells_error(2, P, 3, cells(2, P, 3)), cells_error(2, P, 5, cells(2, P, 5)), cells_error(2, P, 0, (((), x),))
(None, None, None, None)
>>> [cells_error(2, P, 3, value)[0] for value in (C[:1], ((((more, "<="),), x), (((less, "<="),), y)), ((((more, "<="),), y), C[1]))]
['none', 'two', 'other']
>>> cells_error(2, P, 3, ((((more, "<"),), x), C[1]))[0], cells_error(2, P, 3, C + (((), x, y),)), saying_cells(2, P, ("<", 0, 0)).count(())
('none', 'form', 0)
>>> R = (("greatest", 0, 1), ("least", 1, 2), ("choice", 3, "=", 4, 0, 2))
>>> saying_cells(3, R, ("and", ("<", 5, 0), ("not", ("=", 5, 1))))
raises TooMany(4)
"""

NONE, ONE, HALF, LESS = (0, 1), (1, 1), (1, 2), (-1, 1)
P = (("sum", ((ONE, 0), (LESS, 1)), NONE), ("greatest", 0, 1), ("shift", 3, LESS), ("choice", 4, "<=", 1, 0, 4))
EQUALS = (("choice", 0, "=", 1, 0, 2), ("choice", 3, "=", 1, 2, 1), ("choice", 4, "=", 2, 3, 0), ("choice", 5, "=", 3, 4, 1))
CHOICES = (("greatest", 0, 1), ("least", 1, 2), ("choice", 3, "<", 4, 0, 1), ("shift", 5, HALF), ("choice", 6, "=", 3, 4, 5))


def form(*numbers):
    """A form: its factors, its constant, and by behind them."""
    numbers = [pair(number) for number in numbers]
    return tuple(numbers[:-2]), numbers[-2], numbers[-1]


def is_form(draws, given):
    """Whether something is a form."""
    return (type(given) is tuple and len(given) == 3 and type(given[0]) is tuple and len(given[0]) == draws
            and all(is_pair(number) for number in given[0] + given[1:]))


def is_body(draws, given):
    """Whether something is a body of at most MAX_BODY comparisons."""
    return (type(given) is tuple and len(given) <= 12
            and all(type(item) is tuple and len(item) == 2 and is_form(draws, item[0]) and item[1] in ("<", "<=", "=") for item in given))


def parted_points(draw, draws, program, many):
    """Points, many of which lie where names are equal."""
    found = [draw.point(draws) for _ in range(many)]
    for _ in range(many):
        numbers, t = draw.point(draws)
        names = draws + len(program)
        a, b = draw.lot.randrange(names), draw.lot.randrange(names)
        difference = all_values(program, numbers, t)
        difference = difference[a] - difference[b]
        # A step of one number, by a slope measured there, leads to where both are equal, if all is even in between.
        place = draw.lot.randrange(draws + 1)
        coordinates = list(numbers) + [t]
        moved = list(coordinates)
        moved[place] = pair(value(moved[place]) + value((1, 1000)))
        further = all_values(program, tuple(moved[:-1]), moved[-1])
        slope = (further[a] - further[b] - difference) * 1000
        if slope != 0:
            coordinates[place] = pair(value(coordinates[place]) - difference / slope)
        found.append((tuple(coordinates[:-1]), coordinates[-1]))
    return found


class CellsCase(Case):

    def are_right(self, draws, program, name, found, points):
        """Just one body holds at each point, and the name comes to what its form does."""
        self.assertTrue(type(found) is tuple and len(found) <= 81)
        for item in found:
            self.assertTrue(type(item) is tuple and len(item) == 2 and is_body(draws, item[0]) and is_form(draws, item[1]))
        for numbers, t in points:
            here = [f for body, f in found if body_holds(body, numbers, t)]
            self.assertEqual(len(here), 1)
            self.assertEqual(form_value(here[0], numbers, t), all_values(program, numbers, t)[name])

    def are_bodies(self, draws, program, saying, found, points):
        """At each point one body at most holds, and one does if the saying is true there."""
        self.assertTrue(type(found) is tuple and len(found) <= 729)
        self.assertTrue(all(is_body(draws, body) for body in found))
        for numbers, t in points:
            here = [body for body in found if body_holds(body, numbers, t)]
            self.assertEqual(len(here), 1 if is_said(saying, all_values(program, numbers, t)) else 0)


class TestCells(CellsCase):

    def test_examples(self):
        run_examples(self, EXAMPLES)

    def test_some(self):
        self.assertEqual((MAX_CELLS, MAX_BODY), (81, 12))
        draw = Draw(700)
        for draws, program in ((2, P), (3, EQUALS), (3, CHOICES), (1, (("sum", (), HALF), ("choice", 0, "=", 1, 1, 0))),
                               (2, ()), (1, (("shift", 0, ONE),) * 12)):
            self.assertIsNone(program_error(draws, program))
            points = parted_points(draw, draws, program, 60)
            for name in range(draws + len(program)):
                found = self.told(cells, draws, program, name)
                self.are_right(draws, program, name, found, points)
                self.gives(cells_error, (draws, program, name, found), None)

    def test_drawn_ones(self):
        draw = Draw(701)
        many_cells = 0
        for _ in range(120):
            draws = draw.lot.randint(1, 3)
            many = draw.lot.randint(1, 12)
            program = draw.program(draws, many, draw.lot.randint(0, min(4, many)))
            points = parted_points(draw, draws, program, 10)
            for name in {draw.lot.randrange(draws + many), draws + many - 1}:
                found = self.told(cells, draws, program, name)
                self.are_right(draws, program, name, found, points)
                self.assertIsNone(cells_error(draws, program, name, found))
                many_cells = max(many_cells, len(found))
        self.assertGreater(many_cells, 8)

    def test_names_without_choices(self):
        self.gives(cells, (2, P, 0), (((), form(1, 0, 0, 0)),))
        self.gives(cells, (2, P, 1), (((), form(0, 1, 0, 0)),))
        self.gives(cells, (2, P, 2), (((), form(1, -1, 0, 0)),))
        program = P[:1] + (("shift", 2, HALF), ("sum", (((3, 1), 3), (ONE, 3 - 1)), (5, 1)))
        self.gives(cells, (2, program, 4), (((), form(4, -4, 5, value((3, 2)))),))
        # The line chooses, but no name of the third one hangs on it.
        self.gives(cells, (2, (("greatest", 0, 1), ("sum", ((ONE, 0),), NONE)), 3), (((), form(1, 0, 0, 0)),))

    def test_what_is_compared(self):
        """Two names that differ by a draw, by all draws, by t, by a fraction alone, or not at all."""
        draw = Draw(703)
        for draws in (1, 2, 3):
            for terms in ((), ((ONE, 0),), tuple((ONE, k) for k in range(draws)), tuple((LESS, k) for k in range(draws)), ((HALF, draws - 1),)):
                for constant, by in itertools.product((NONE, ONE, LESS, HALF), repeat=2):
                    for word in ("<", "<=", "="):
                        lines = (("sum", terms, constant), ("shift", draws, by), ("sum", (), NONE), ("choice", draws + 1, word, draws + 2, 0, draws + 2))
                        points = parted_points(draw, draws, lines, 4)
                        found = cells(draws, lines, draws + 3)
                        self.are_right(draws, lines, draws + 3, found, points)
                        self.assertIsNone(cells_error(draws, lines, draws + 3, found))
                        self.assertEqual(len(found), 1 if terms == () and by == NONE else 3 if word == "=" else 2)
                        told = saying_cells(draws, lines, (word, draws + 1, draws + 2))
                        self.are_bodies(draws, lines, (word, draws + 1, draws + 2), told, points)

    def test_choices_of_choices(self):
        steps = (("choice", 0, "=", 1, 0, 2), ("choice", 3, "=", 2, 1, 0), ("choice", 4, "=", 3, 1, 2), ("choice", 5, "<", 4, 3, 0))
        draw = Draw(702)
        points = [(tuple(pair(n) for n in numbers), NONE) for numbers in itertools.product((0, 1, 2), repeat=3)]
        for name in range(3, 7):
            found = cells(3, steps, name)
            self.are_right(3, steps, name, found, points + parted_points(draw, 3, steps, 40))
            self.gives(cells_error, (3, steps, name, found), None)


class TestCellsError(CellsCase):

    def is_shown(self, draws, program, name, given):
        """What cells_error tells, after its point has been tried."""
        told = self.told(cells_error, draws, program, name, given)
        if told is None or told == "form":
            return told
        word, numbers, t = told
        self.assertTrue(type(numbers) is tuple and len(numbers) == draws and all(is_pair(number) for number in numbers + (t,)))
        here = [f for body, f in given if body_holds(body, numbers, t)]
        if word == "none":
            self.assertEqual(here, [])
        elif word == "two":
            self.assertGreater(len(here), 1)
        else:
            worth = value(run(program, numbers, t)[name])
            self.assertTrue(any(form_value(f, numbers, t) != worth for f in here))
        return word

    def test_form(self):
        good = cells(2, P, 3)
        body, f = good[0]
        bad = [odd for odd in ODD_VALUES] + [
            (), (body,), (body, f, f), [body, f], (list(body), f), (body, list(f)), (body, None), (None, f), (body, body), (f, body), (body, (f,)),
            (body[0], f), ((body[0][0],), f), (((body[0][0], ">"),), f), (((body[0][0], "<", "<"),), f), (([body[0][0], "<"],), f),
            (((body[0][0], ("<",)),), f), ((("<", body[0][0]),), f), ((None,), f), ((body[0], None), f), (body, f[:2]), (body, f + (NONE,)),
            (body, (f[0] + (NONE,), f[1], f[2])), (body, (f[0][:1], f[1], f[2])), (body, (list(f[0]), f[1], f[2])), (body, (f[0], (2, 2), f[2])),
            (body, (f[0], f[1], (True, 1))), (body, (f[0], f[1], 0)), (body, ((NONE, (0, 2)), f[1], f[2])), (body, ((NONE, None), f[1], f[2])),
            ((((f[0] + (NONE,), f[1], f[2]), "<"),), f), ((((f[0], f[1], (0, 5)), "<"),), f), ((body[0],) * 13, f), ("", f), ("<", f),
            ({body[0]: 1}, f),
        ]
        for odd in bad:
            self.gives(cells_error, (2, P, 3, (odd,)), "form")
            self.gives(cells_error, (2, P, 3, good + (odd,)), "form")
            self.gives(cells_error, (2, P, 3, (odd,) + good), "form")
        for odd in [odd for odd in ODD_VALUES] + [list(good), body, f, {0: good}, good[0]]:
            self.gives(cells_error, (2, P, 3, odd), "form")
        self.gives(cells_error, (1, (), 0, cells(2, P, 0)), "form")
        self.gives(cells_error, (3, (), 0, cells(2, P, 0)), "form")

    def test_limits(self):
        x, nowhere = form(1, 0, 0), (form(0, 0, 0), "<")
        self.gives(cells_error, (1, (), 0, (((), x),) + (((nowhere,), x),) * 80), None)
        self.gives(cells_error, (1, (), 0, (((), x),) + (((nowhere,), x),) * 81), "form")
        everywhere = (form(0, 0, 0), "=")
        self.gives(cells_error, (1, (), 0, (((everywhere,) * 12, x),)), None)
        self.gives(cells_error, (1, (), 0, (((everywhere,) * 13, x),)), "form")
        # 81 stretches of a line.
        stretches = [(((form(1, 0, 0), "<"),), x)]
        stretches += [(((form(-1, k, 0), "<="), (form(1, -k - 1, 0), "<")), x) for k in range(79)]
        stretches += [(((form(-1, 79, 0), "<="),), x)]
        self.gives(cells_error, (1, (), 0, tuple(stretches)), None)
        self.gives(cells_error, (1, (), 0, tuple(stretches[::-1])), None)
        self.assertEqual(self.is_shown(1, (), 0, tuple(stretches[:40] + stretches[41:])), "none")
        self.assertEqual(self.is_shown(1, (("shift", 0, ONE),), 1, tuple(stretches)), "other")
        # A grid of boxes, cut across all four numbers.
        grid = []
        for sides in itertools.product(range(3), repeat=4):
            body = ()
            for place, side in enumerate(sides):
                up = [0, 0, 0, 0, 0]
                up[place if place < 3 else 4] = 1
                low = form(*[-n for n in up])
                high = form(*up[:3], -1, up[4])
                body += (((form(*up), "<"),), ((low, "<="), (high, "<=")), ((form(*[-n for n in up[:3]], 1, -up[4]), "<"),))[side]
            grid.append((body, form(1, 0, 0, 0, 0)))
        self.gives(cells_error, (3, (), 0, tuple(grid)), None)
        self.assertEqual(self.is_shown(3, (), 0, tuple(grid[:40] + grid[41:])), "none")
        self.assertEqual(self.is_shown(3, (), 0, tuple(grid[:80] + grid[:1])), "none")
        self.assertEqual(self.is_shown(3, (), 0, tuple(grid[:80]) + ((grid[80][0][:3], form(1, 0, 0, 0, 0)),)), "two")
        self.assertEqual(self.is_shown(3, (), 1, tuple(grid)), "other")

    def test_none(self):
        x = form(1, 0, 0)
        for given in ((), (((form(1, 0, 0), "<"),), x), (((form(1, 0, 0), "<="),), x), (((form(1, 0, 0), "="),), x), (((form(0, 1, 0), "<"),), x)):
            given = (given,) if given else given
            self.assertEqual(self.is_shown(1, (), 0, given), "none")
        down, up, level = ((form(1, 0, 0), "<"),), ((form(-1, 0, 0), "<"),), ((form(3, 0, 0), "="),)
        self.gives(cells_error, (1, (), 0, ((down, x), (up, x), (level, x))), None)
        for given in itertools.permutations(((down, x), (up, x), (level, x)), 2):
            self.assertEqual(self.is_shown(1, (), 0, given), "none")
        self.assertEqual(cells_error(1, (), 0, ((down, x), (up, x)))[1], (NONE,))
        # A point alone, in the midst of all others.
        spot = [((form(1, 0, 0, 0), "="), (form(0, 1, 0, 0), "<")), ((form(1, 0, 0, 0), "="), (form(0, -1, 0, 0), "<")),
                ((form(1, 0, 0, 0), "<"),), ((form(-1, 0, 0, 0), "<"),)]
        y = form(0, 1, 0, 0)
        middle = (((form(1, 0, 0, 0), "="), (form(0, 1, 0, 0), "=")), y)
        self.gives(cells_error, (2, (), 1, tuple((body, y) for body in spot) + (middle,)), None)
        self.assertEqual(self.is_shown(2, (), 1, tuple((body, y) for body in spot)), "none")
        self.assertEqual(cells_error(2, (), 1, tuple((body, y) for body in spot))[1], (NONE, NONE))

    def test_two(self):
        x = form(1, 0, 0)
        down, up, level = ((form(1, 0, 0), "<"),), ((form(-1, 0, 0), "<"),), ((form(1, 0, 0), "="),)
        low, high = ((form(1, 0, 0), "<="),), ((form(-1, 0, 0), "<="),)
        for given in ((low, high), (low, up, down), (low, up, level), (down, level, high), ((), ()), ((), level), ((), ((form(7, -5, 1), "="),)),
                      (low, high, level), (down, up, level, level), ((), ((form(1, -1, 0), "="), (form(1, 0, -1), "=")))):
            for order in itertools.permutations(given):
                self.assertEqual(self.is_shown(1, (), 0, tuple((body, x) for body in order)), "two")
        self.assertEqual(self.is_shown(1, (), 0, ((low, x), (high, x))), "two")
        # Twice the same cell counts as two, one that holds nowhere does not.
        nowhere = ((form(1, 0, 0), "<"), (form(-1, 0, 0), "<="))
        self.gives(cells_error, (1, (), 0, ((nowhere, x), (low, x), (nowhere, x), (up, x), (nowhere, form(5, 5, 5)))), None)

    def test_other(self):
        x, y = form(1, 0, 0, 0), form(0, 1, 0, 0)
        less, more = form(1, -1, 0, 0), form(-1, 1, 0, 0)
        program = (("greatest", 0, 1),)
        for words in (("<=", "<"), ("<", "<=")):
            self.gives(cells_error, (2, program, 2, (((((more, words[0]),), x)), (((less, words[1]),), y))), None)
            self.assertEqual(self.is_shown(2, program, 2, (((((more, words[0]),), y)), (((less, words[1]),), x))), "other")
        self.assertEqual(self.is_shown(2, program, 2, (((), x),)), "other")
        self.assertEqual(self.is_shown(2, program, 2, (((), form(1, 1, 0, 0)),)), "other")
        self.assertEqual(self.is_shown(2, program, 0, (((), form(1, 0, 0, 1)),)), "other")
        self.assertEqual(self.is_shown(2, program, 0, (((), form(1, 0, value((1, 10 ** 39)), 0)),)), "other")
        # Right but on a line, and right but at a point.
        level = form(1, -1, 0, 0)
        three = [((((less, "<"),), y)), ((((more, "<"),), x))]
        for f, expected in ((x, None), (y, None), (form(3, -2, 0, 0), None), (form(value(HALF), value(HALF), 0, 0), None), (form(0, 0, 0, 0), "other"),
                            (form(2, -1, 0, 0), None), (form(2, 0, 0, 0), "other"), (form(1, 0, 0, 1), "other")):
            self.assertEqual(self.is_shown(2, program, 2, tuple(three) + ((((level, "="),), f),)), expected)
        spot = ((((level, "="), (form(1, 0, -1, 0), "=")), form(0, 0, 1, 0)), (((level, "="), (form(1, 0, -1, 0), "<")), x),
                (((level, "="), (form(-1, 0, 1, 0), "<")), x))
        self.gives(cells_error, (2, program, 2, tuple(three) + spot), None)
        wrong = ((spot[0][0], form(0, 0, 2, 0)),) + spot[1:]
        told = self.told(cells_error, 2, program, 2, tuple(three) + wrong)
        self.assertEqual(told[:2], ("other", (ONE, ONE)))
        # A body that is right inside, and wrong at its side alone.
        self.gives(cells_error, (2, (("choice", 0, "<", 1, 0, 1),), 2, ((((less, "<="),), x), (((more, "<"),), y))), None)
        tie = (("sum", (), (5, 1)), ("choice", 0, "<", 1, 0, 2))
        five = form(0, 0, 5, 0)
        self.gives(cells_error, (2, tie, 3, ((((less, "<"),), x), (((more, "<="),), five))), None)
        self.assertEqual(self.is_shown(2, tie, 3, ((((less, "<="),), x), (((more, "<"),), five))), "other")

    def test_the_first_word(self):
        x, y = form(1, 0, 0), form(0, 1, 0)
        low, high = ((form(1, 0, 0), "<="),), ((form(-1, 0, 0), "<="),)
        down, up = ((form(1, 0, 0), "<"),), ((form(-1, 0, 0), "<"),)
        self.assertEqual(self.is_shown(1, (), 0, ((low, y), (low, y))), "none")
        self.assertEqual(self.is_shown(1, (), 0, ((low, y), (high, y))), "two")
        self.assertEqual(self.is_shown(1, (), 0, ((low, y), (up, y))), "other")
        self.assertEqual(self.is_shown(1, (), 0, ((down, y), (up, y))), "none")
        self.gives(cells_error, (1, (), 0, ((down, y), (down, y), None)), "form")

    def test_changed_cells(self):
        draw = Draw(710)
        words = {}
        for _ in range(60):
            draws = draw.lot.randint(1, 3)
            program = draw.program(draws, draw.lot.randint(4, 9), draw.lot.randint(1, 4))
            name = draw.lot.randrange(draws, draws + len(program))
            found = list(cells(draws, program, name))
            points = parted_points(draw, draws, program, 10)
            for _ in range(5):
                changed = list(found)
                draw.lot.shuffle(changed)
                place = draw.lot.randrange(len(changed))
                body, f = changed[place]
                kind = draw.lot.randrange(6)
                if kind == 0:
                    changed.pop(place)
                elif kind == 1:
                    changed[place] = (body, draw.form(draws))
                elif kind == 2 and body:
                    changed[place] = (tuple((g, draw.lot.choice(["<", "<=", "="])) for g, _ in body), f)
                elif kind == 3:
                    changed.append((body + draw.body(draws, 1), f))
                elif kind == 4:
                    split = draw.form(draws)
                    turned = (tuple((-a, b) for a, b in split[0]), (-split[1][0], split[1][1]), (-split[2][0], split[2][1]))
                    changed[place:place + 1] = [(body + ((split, "<"),), f), (body + ((turned, "<="),), f)]
                else:
                    changed[place] = (body, found[draw.lot.randrange(len(found))][1])
                word = self.is_shown(draws, program, name, tuple(changed))
                words[word] = words.get(word, 0) + 1
                for numbers, t in points:
                    here = [g for told, g in changed if body_holds(told, numbers, t)]
                    right = len(here) == 1 and form_value(here[0], numbers, t) == all_values(program, numbers, t)[name]
                    self.assertTrue(right or word is not None)
                    self.assertTrue(here != [] or word == "none")
        self.assertTrue(all(words.get(word, 0) > 10 for word in (None, "none", "two", "other")), words)


class TestSayingCells(CellsCase):

    def test_drawn_ones(self):
        draw = Draw(720)
        for _ in range(100):
            draws = draw.lot.randint(1, 3)
            many = draw.lot.randint(1, 8)
            program = draw.program(draws, many, draw.lot.randint(0, min(2 if draws == 3 else 3, many)))
            saying = draw.saying(draws + many, draw.lot.randint(1, 2 if draws == 3 else 3))
            points = parted_points(draw, draws, program, 15)
            found = self.told(saying_cells, draws, program, saying)
            other = saying_cells(draws, program, ("not", saying))
            self.are_bodies(draws, program, saying, found, points)
            self.are_bodies(draws, program, ("not", saying), other, points)
            for numbers, t in points:
                self.assertEqual(len([body for body in found + other if body_holds(body, numbers, t)]), 1)

    def test_a_saying_and_its_contrary_are_all(self):
        """Bodies of both make cells, of any form."""
        draw = Draw(721)
        for _ in range(30):
            draws = draw.lot.randint(1, 3)
            program = draw.program(draws, 4, 1)
            saying = draw.saying(draws + 4, 2)
            bodies = saying_cells(draws, program, saying) + saying_cells(draws, program, ("not", saying))
            f = form(*[1] + [0] * (draws + 1))
            self.assertIsNone(cells_error(draws, program, 0, tuple((body, f) for body in bodies)))

    def test_everywhere_and_nowhere(self):
        draw = Draw(722)
        for draws, program in ((1, ()), (2, P[:2]), (3, CHOICES[:1])):
            points = parted_points(draw, draws, program, 20)
            top = draws + len(program) - 1
            for saying in (("<", 0, 0), ("<", top, top), ("not", ("=", top, top)), ("and", ("<", 0, top), ("<", top, 0)),
                           ("and", ("=", 0, top), ("not", ("<=", 0, top)))):
                found = self.told(saying_cells, draws, program, saying)
                self.are_bodies(draws, program, saying, found, points)
                for body in found:
                    with self.assertRaises(NoPoint):
                        point_in(draws, body)
                everywhere = ("not", saying)
                found = self.told(saying_cells, draws, program, everywhere)
                self.are_bodies(draws, program, everywhere, found, points)
                f = form(*[1] + [0] * (draws + 1))
                self.assertIsNone(cells_error(draws, program, 0, tuple((body, f) for body in found)))

    def test_as_many_as_can_be(self):
        self.assertEqual((MAX_MATTER, MAX_MATTER_THREE), (6, 4))
        c = ("=", 0, 1)
        four = ("or", ("and", c, ("=", 2, 3)), ("and", ("not", c), ("<", 4, 5)))
        three = ("and", c, ("or", c, ("<", 0, 5)))
        two = (("choice", 0, "=", 1, 0, 1), ("choice", 2, "=", 1, 0, 1))
        program = two + (("sum", ((ONE, 0), (ONE, 3)), NONE), ("sum", ((ONE, 1), (HALF, 2)), ONE))
        draw = Draw(723)
        points = parted_points(draw, 2, program, 60)
        self.are_bodies(2, program, four, self.told(saying_cells, 2, program, four), points)
        third = program + (("greatest", 4, 5),)
        self.are_bodies(2, third, three, self.told(saying_cells, 2, third, three), points)
        hung = ("or", ("and", c, ("=", 2, 3)), ("and", ("not", c), ("<", 6, 5)))
        self.fails(saying_cells, (2, third, hung), "TooMany(6)")
        # Choices that it does not hang on count as little as lines that choose nothing.
        self.are_bodies(2, third, four, self.told(saying_cells, 2, third, four), points)
        for many in range(1, 5):
            saying = c
            for _ in range(many - 1):
                saying = ("or", c, saying)
            for choices in range(5):
                lines = (("choice", 0, "=", 1, 0, 1),) * choices
                hanging = lines + (("sum", tuple((ONE, 2 + k) for k in range(choices)), NONE),)
                asked = ("and", ("<=", 2 + choices, 0), saying) if many < 4 else ("not", saying)
                count = many + choices + 1 if many < 4 else many
                if count > 6:
                    self.fails(saying_cells, (2, hanging, asked), "TooMany(6)")
                else:
                    self.are_bodies(2, hanging, asked, self.told(saying_cells, 2, hanging, asked), points[:20])
        lines = (("choice", 0, "=", 1, 0, 1),) * 4
        self.fails(saying_cells, (2, lines + (("sum", ((ONE, 2), (ONE, 3), (ONE, 4), (ONE, 5)), NONE),), ("and", ("<", 6, 0), ("and", c, c))), "TooMany(6)")

    def test_three_draws(self):
        c = ("=", 0, 1)
        two = (("choice", 0, "=", 1, 0, 2), ("choice", 3, "<", 1, 0, 1))
        draw = Draw(724)
        points = parted_points(draw, 3, two, 40)
        for saying in (("and", c, ("<", 4, 2)), ("or", ("and", c, ("<", 1, 2)), ("and", ("not", c), ("<=", 2, 0))), ("not", ("=", 4, 4)),
                       ("and", c, ("and", c, ("<", 3, 0)))):
            self.are_bodies(3, two, saying, self.told(saying_cells, 3, two, saying), points)
        for saying in (("and", c, ("and", c, ("<", 4, 0))), ("or", ("and", c, c), ("and", c, ("<", 3, 0))), ("or", ("<", 4, 0), ("and", c, c))):
            self.fails(saying_cells, (3, two, saying), "TooMany(4)")
            # With two draws, and a line in the place of the third one, the limit is 6.
            self.assertIs(type(saying_cells(2, (("sum", (), ONE),) + two, saying)), tuple)
        unhung = two + (("greatest", 0, 4),)
        self.assertIs(type(saying_cells(3, unhung, ("or", ("and", c, c), ("and", c, c)))), tuple)


if __name__ == "__main__":
    unittest.main()
