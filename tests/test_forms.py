"""Forms, programs and sayings: [F1] to [F5]."""

import unittest

from tests.oracle import Draw, all_values, form_value, is_said, pair
from tests.support import ODD_VALUES, Case, nested, run_examples
from unsureworks.bounds import MAX_CHOICES, MAX_COMPARED, MAX_LINES, MAX_NESTED
from unsureworks.forms import form_at, holds, program_error, run, saying_error

EXAMPLES = """
>>> from unsureworks.forms import form_at, holds, program_error, run, saying_error
>>> none, one, half = (0, 1), (1, 1), (1, 2)
>>> P = (("sum", ((one, 0), ((-1, 1), 1)), none), ("greatest", 0, 1), ("shift", 3, (-1, 1)), ("choice", 4, "<=", 1, 0, 4))
>>> program_error(2, P), program_error(1, P), program_error(2, P[1:]), program_error(2, list(P))
(None, ('line', 0), ('line', 1), 'form')
>>> saying_error(6, ("and", ("<", 1, 0), ("not", ("=", 2, 3)))), saying_error(6, ("<", 0, 6)), saying_error(6, ("<", 0)), saying_error(6, ("<", 0, -1))
(None, 'name', 'form', 'form')
>>> form_at(((one, (-1, 1)), none, (2, 1)), (half, (1, 3)), (1, 4)), run(P, (half, (1, 3)), one)
((2, 3), ((1, 2), (1, 3), (1, 6), (1, 2), (-1, 2), (1, 2)))
>>> run(P, (half, (1, 3)), none)[4:], holds(("and", ("<", 1, 0), ("not", ("=", 2, 3))), run(P, (half, (1, 3)), one))
(((1, 2), (1, 2)), True)
"""

NONE, ONE, HALF = (0, 1), (1, 1), (1, 2)
GREAT = 10 ** 40 - 1
P = (("sum", ((ONE, 0), ((-1, 1), 1)), NONE), ("greatest", 0, 1), ("shift", 3, (-1, 1)), ("choice", 4, "<=", 1, 0, 4))
SUM, SHIFT = ("sum", (), NONE), ("shift", 0, ONE)
CHOICES = (("greatest", 0, 0), ("least", 0, 0), ("choice", 0, "<", 0, 0, 0), ("choice", 0, "=", 0, 0, 0))


def deep_not(saying, many):
    """A saying behind so many "not"."""
    for _ in range(many):
        saying = ("not", saying)
    return saying


class TestProgramError(Case):

    def test_examples(self):
        run_examples(self, EXAMPLES)

    def test_programs(self):
        for draws in (1, 2, 3, 12):
            self.gives(program_error, (draws, ()), None)
            self.gives(program_error, (draws, (SUM,) * 12), None)
            self.gives(program_error, (draws, CHOICES), None)
            draw = Draw(500 + draws)
            for _ in range(40):
                many = draw.lot.randint(4, 12)
                self.gives(program_error, (draws, draw.program(draws, many, draw.lot.randint(0, 4))), None)
        self.gives(program_error, (12, (("sum", tuple((HALF, name) for name in range(12)), (GREAT, GREAT - 1)),)), None)
        self.gives(program_error, (2, (("sum", ((NONE, 0), (NONE, 1)), NONE),)), None)
        self.gives(program_error, (1, (("choice", 0, "<", 0, 0, 0),)), None)
        self.gives(program_error, (1, (SUM, ("greatest", 1, 1), ("choice", 2, "=", 2, 2, 2))), None)

    def test_form(self):
        for odd in ODD_VALUES:
            if not isinstance(odd, tuple):
                self.gives(program_error, (2, odd), "form")
        self.gives(program_error, (2, [SUM]), "form")
        self.gives(program_error, (2, {0: SUM}), "form")
        self.gives(program_error, (2, "sum"), "form")
        self.assertEqual(MAX_LINES, 12)
        self.gives(program_error, (2, (SUM,) * 12), None)
        self.gives(program_error, (2, (SUM,) * 13), "form")
        self.gives(program_error, (2, (None,) * 13), "form")
        self.gives(program_error, (2, (None,) * 12), ("line", 0))
        self.gives(program_error, (2, CHOICES * 4), "form")

    def bad_line(self, line):
        """It is no line of a program with 2 draws, ahead of others or behind them."""
        self.gives(program_error, (2, (line,)), ("line", 0))
        self.gives(program_error, (2, (line, line, SUM)), ("line", 0))
        self.gives(program_error, (2, (SUM, SHIFT) + (line,)), ("line", 2))

    def test_no_line(self):
        for odd in ODD_VALUES + [(), ("sum",), ("SUM", (), NONE), ("sums", (), NONE), list(SUM), "sum", ("greatest",), ("and", 0, 1)]:
            self.bad_line(odd)

    def test_sums(self):
        for odd in ODD_VALUES + [((HALF,),), ((HALF, 0, 0),), ([HALF, 0],), (HALF, 0), [(HALF, 0)], ((0, HALF),), ((HALF, "0"),),
                                 ((HALF, None),), ((HALF, True),), ((HALF, False),), (((2, 4), 0),), (((True, 1), 0),), (((1, 0), 0),),
                                 (([1, 2], 0),), ((HALF, -1),), ((HALF, 9),), ((HALF, 1), (HALF, 0)), ((HALF, 0), (HALF, 0)),
                                 ((HALF, 0), (HALF, 1), (HALF, 1)), ((HALF, 1), (HALF, 0), (HALF, 2)), ((HALF, (0,)),)]:
            if odd != ():
                self.bad_line(("sum", odd, NONE))
        for odd in ODD_VALUES + [(2, 4), (1, 0), (True, 1), [0, 1], 0]:
            self.bad_line(("sum", (), odd))
        self.bad_line(("sum", ()))
        self.bad_line(("sum", (), NONE, NONE))
        self.bad_line(("sum", NONE))

    def test_names(self):
        for odd in ODD_VALUES + [-1, 9, 10 ** 39, "0", True, False, None, (0,), [0], "a", HALF, NONE]:
            if odd == 0 and odd is not False or odd == 1 and odd is not True:
                continue
            for line in (("greatest", odd, 0), ("greatest", 0, odd), ("least", odd, 0), ("least", 0, odd), ("shift", odd, ONE)):
                self.bad_line(line)
            for place in (1, 3, 4, 5):
                line = ("choice", 0, "<", 1, 0, 1)
                self.bad_line(line[:place] + (odd,) + line[place + 1:])

    def test_own_and_later_names(self):
        for place in range(4):
            ahead = (SUM,) * place
            own = 2 + place
            for name, expected in ((own - 1, None), (own, ("line", place)), (own + 1, ("line", place))):
                for line in (("sum", ((HALF, name),), NONE), ("greatest", 0, name), ("greatest", name, 0), ("least", 0, name), ("shift", name, ONE),
                             ("least", name, 0), ("choice", name, "<", 0, 0, 0), ("choice", 0, "=", name, 0, 0),
                             ("choice", 0, "<=", 0, name, 0), ("choice", 0, "<", 0, 0, name)):
                    self.gives(program_error, (2, ahead + (line,) + (SUM,) * 3), expected)
        self.gives(program_error, (1, (("greatest", 0, 1),)), ("line", 0))
        self.gives(program_error, (2, (("greatest", 0, 1),)), None)

    def test_words_and_counts(self):
        for odd in ODD_VALUES + [">", ">=", "==", "!=", "< ", "", None, ("<",), 0, "sum"]:
            self.bad_line(("choice", 0, odd, 1, 0, 1))
        for line in (("choice", 0, "<", 1, 0), ("choice", 0, "<", 1, 0, 1, 0), ("choice", 0, 1), ("greatest", 0), ("greatest", 0, 1, 0),
                     ("least", 0), ("least", 0, 1, 1), ("shift", 0), ("shift", 0, ONE, ONE), ("shift", ONE, 0), ("<", 0, 1)):
            self.bad_line(line)
        for odd in ODD_VALUES + [(2, 4), 1, None, [1, 1]]:
            self.bad_line(("shift", 0, odd))
        for odd in ODD_VALUES + ["sums", "choices", "<", "<=", "=", "and", "or", "not", "seen", "draw"]:
            self.bad_line((odd, 0, 1))
            self.bad_line((odd, (), NONE))
            self.bad_line((odd, 0, ONE))
            self.bad_line((odd, 0, "<", 1, 0, 1))
        for word in ("sum", "greatest", "least", "shift", "choice"):
            for line in ((word, (), NONE), (word, 0, 1), (word, 0, "<", 1, 0, 1), (word, 0, ONE)):
                good = {"sum": 0, "greatest": 1, "least": 1, "choice": 2, "shift": 3}[word]
                if line != ((word, (), NONE), (word, 0, 1), (word, 0, "<", 1, 0, 1), (word, 0, ONE))[good]:
                    self.bad_line(line)

    def test_choices(self):
        self.assertEqual(MAX_CHOICES, 4)
        for fifth in CHOICES:
            self.gives(program_error, (1, CHOICES + (fifth,)), ("line", 4))
            self.gives(program_error, (1, CHOICES + (SUM, SHIFT, SUM, fifth, SUM)), ("line", 7))
            self.gives(program_error, (1, (SUM,) * 7 + (fifth,) * 5), ("line", 11))
            self.gives(program_error, (1, (SUM,) * 8 + (fifth,) * 4), None)
            self.gives(program_error, (1, CHOICES + (fifth, None)), ("line", 4))
            self.gives(program_error, (1, CHOICES + (None, fifth)), ("line", 4))
            self.gives(program_error, (1, (fifth,) * 6 + (None,)), ("line", 4))
            self.gives(program_error, (1, CHOICES[:3] + (None, fifth, fifth)), ("line", 3))


class TestSayingError(Case):

    def test_sayings(self):
        draw = Draw(510)
        for names in (1, 2, 15):
            for _ in range(60):
                self.gives(saying_error, (names, draw.saying(names, draw.lot.randint(1, 4))), None)
        for word in ("<", "<=", "="):
            self.gives(saying_error, (1, (word, 0, 0)), None)

    def test_form(self):
        bad = ODD_VALUES + [
            (), ("<",), ("<", 0), ("<", 0, 0, 0), ["<", 0, 0], ("<", [0], 0), ("<", "0", 0), ("<", 0, None), ("<", True, 0), ("<", 0, False),
            ("<", -1, 0), ("<", 0, -1), ("<", 0, (0,)), (">", 0, 0), (">=", 0, 0), ("==", 0, 0), ("", 0, 0), (None, 0, 0), (0, 0, 0),
            ("not",), ("not", None), ("not", ("<", 0, 0), ("<", 0, 0)), ("and", ("<", 0, 0)), ("or", ("<", 0, 0)), ("not", "<", 0, 0),
            ("and", ("<", 0, 0), ("<", 0, 0), ("<", 0, 0)), ("and", ("<", 0, 0), None), ("or", None, ("<", 0, 0)), ("xor", ("<", 0, 0), ("<", 0, 0)),
            ("and", ["<", 0, 0], ("<", 0, 0)), ("or", ("<", 0, 0), ("not", ("<", 0))), ("not", ["<", 0, 0]), ("AND", ("<", 0, 0), ("<", 0, 0)),
            ("and", 0, 0), ("not", 0), ("<", ("<", 0, 0), 0), (("<", 0, 0),), ("=", 0, 0, "<"), {"<": (0, 0)}, "<", ("and",), ("<", HALF, ONE),
        ]
        for odd in bad:
            self.gives(saying_error, (3, odd), "form")
            self.gives(saying_error, (3, ("not", odd)), "form")
            self.gives(saying_error, (3, ("and", ("<", 0, 1), odd)), "form")
            self.gives(saying_error, (3, ("or", odd, ("<", 0, 9))), "form")

    def test_names(self):
        for names in (1, 2, 15):
            for name, expected in ((names - 1, None), (names, "name"), (names + 1, "name"), (10 ** 39, "name")):
                for word in ("<", "<=", "="):
                    self.gives(saying_error, (names, (word, name, 0)), expected)
                    self.gives(saying_error, (names, (word, 0, name)), expected)
                    self.gives(saying_error, (names, ("and", ("not", (word, 0, 0)), ("or", ("=", 0, 0), (word, 0, name)))), expected)
        # "form" is told ahead of "name".
        self.gives(saying_error, (1, ("and", ("<", 5, 5), ("<", 0))), "form")
        self.gives(saying_error, (1, ("and", ("<", 5, 5), ("<", 0, -1))), "form")
        self.gives(saying_error, (1, ("and", ("<", 5, 5), ("<", 0, True))), "form")
        self.gives(saying_error, (1, deep_not(("<", 5, 5), 40)), "form")
        self.gives(saying_error, (1, deep_not(("<", 5, 5), 39)), "name")

    def test_compared(self):
        self.assertEqual(MAX_COMPARED, 4)
        c = ("<", 0, 0)
        two = ("and", c, c)
        self.gives(saying_error, (1, ("or", two, two)), None)
        self.gives(saying_error, (1, ("or", ("and", two, c), c)), None)
        self.gives(saying_error, (1, ("or", two, ("not", two))), None)
        self.gives(saying_error, (1, ("or", ("and", two, c), two)), "form")
        self.gives(saying_error, (1, ("not", ("or", two, ("and", c, two)))), "form")
        self.gives(saying_error, (1, ("or", two, ("and", ("<", 7, 7), two))), "form")
        many = c
        for _ in range(38):
            many = ("and", many, c)
        self.gives(saying_error, (1, many), "form")

    def test_depth(self):
        self.assertEqual(MAX_NESTED, 40)
        for c in (("<", 0, 0), ("=", 0, 0)):
            self.gives(saying_error, (1, deep_not(c, 39)), None)
            self.gives(saying_error, (1, deep_not(c, 40)), "form")
            self.gives(saying_error, (1, ("and", c, deep_not(c, 38))), None)
            self.gives(saying_error, (1, ("and", c, deep_not(c, 39))), "form")
            self.gives(saying_error, (1, ("or", deep_not(c, 39), c)), "form")
            self.gives(saying_error, (1, deep_not(("or", c, c), 38)), None)
            self.gives(saying_error, (1, deep_not(("or", c, c), 39)), "form")
        self.gives(saying_error, (1, nested(39)), "form")


class TestRunning(Case):

    def test_forms(self):
        for draws in (1, 2, 3, 7, 12):
            draw = Draw(520 + draws)
            for _ in range(30):
                form = draw.form(draws)
                numbers, t = tuple(draw.fraction() for _ in range(draws)), draw.fraction()
                self.gives(form_at, (form, numbers, t), pair(form_value(form, numbers, t)))
        self.gives(form_at, (((NONE,), NONE, NONE), (ONE,), ONE), NONE)
        self.gives(form_at, (((NONE,), (3, 7), NONE), (ONE,), ONE), (3, 7))
        self.gives(form_at, (((NONE,), NONE, (3, 7)), (ONE,), (2, 1)), (6, 7))

    def test_programs(self):
        for draws in (1, 2, 3, 12):
            draw = Draw(530 + draws)
            for _ in range(40):
                many = draw.lot.randint(1, 12)
                program = draw.program(draws, many, draw.lot.randint(0, min(4, many)))
                for _ in range(4):
                    numbers, t = draw.point(draws)
                    self.gives(run, (program, numbers, t), tuple(pair(worth) for worth in all_values(program, numbers, t)))
        self.gives(run, ((), (HALF, (GREAT, 7)), ONE), (HALF, (GREAT, 7)))

    def test_ties(self):
        for low, high, words in (((0, 1), (1, 3), ("<", "<=")), ((1, 3), (1, 3), ("<=", "=")), ((1, 2), (1, 3), ())):
            for word in ("<", "<=", "="):
                told = word in words
                program = (("choice", 0, word, 1, 2, 3),)
                self.gives(run, (program, (low, high, (5, 1), (7, 1)), NONE), (low, high, (5, 1), (7, 1), (5, 1) if told else (7, 1)))
                self.gives(holds, ((word, 0, 1), (low, high)), told)
                self.gives(holds, (("not", (word, 0, 1)), (low, high)), not told)
        self.gives(run, ((("greatest", 0, 1), ("least", 0, 1)), (HALF, HALF), NONE), (HALF, HALF, HALF, HALF))
        self.gives(run, ((("greatest", 1, 0), ("least", 1, 0)), (HALF, ONE), NONE), (HALF, ONE, ONE, HALF))
        self.gives(run, ((("greatest", 0, 1), ("least", 0, 1)), ((-1, 2), (-1, 3)), NONE), ((-1, 2), (-1, 3), (-1, 3), (-1, 2)))

    def test_each_line(self):
        self.gives(run, ((("sum", (), (3, 1)),), (ONE,), ONE), (ONE, (3, 1)))
        self.gives(run, ((("sum", ((NONE, 0),), NONE),), (ONE,), ONE), (ONE, NONE))
        self.gives(run, ((("shift", 0, (2, 1)), ("shift", 1, (-3, 1))), (ONE,), HALF), (ONE, (2, 1), (1, 2)))
        self.gives(run, ((("shift", 0, (2, 1)),), (ONE,), NONE), (ONE, ONE))
        doubling = (("sum", (((2, 1), 0),), NONE),) + tuple(("sum", (((2, 1), k),), NONE) for k in range(1, 12))
        self.gives(run, (doubling, (ONE,), NONE), tuple((2 ** k, 1) for k in range(13)))
        self.gives(run, ((("choice", 0, "<", 0, 1, 0), ("choice", 2, "=", 1, 2, 1)), (HALF, ONE), NONE), (HALF, ONE, HALF, ONE))

    def test_sayings(self):
        draw = Draw(540)
        told = []
        for _ in range(300):
            names = draw.lot.randint(1, 6)
            values = tuple(pair(draw.lot.choice([0, 1, draw.small()])) for _ in range(names))
            saying = draw.saying(names, draw.lot.randint(1, 4))
            expected = is_said(saying, [f[0] / f[1] for f in values])
            told.append(expected)
            self.gives(holds, (saying, values), expected)
        self.assertGreater(min(told.count(True), told.count(False)), 60)
        true, false = ("=", 0, 0), ("<", 0, 0)
        for one in (true, false):
            for other in (true, false):
                self.gives(holds, (("and", one, other), (ONE,)), one == true and other == true)
                self.gives(holds, (("or", one, other), (ONE,)), one == true or other == true)
            self.gives(holds, (deep_not(one, 39), (ONE,)), one == false)
            self.gives(holds, (deep_not(one, 38), (ONE,)), one == true)


if __name__ == "__main__":
    unittest.main()
