"""Fractions and their texts: [A4], [A5], [A6]."""

import unittest

from tests.oracle import Draw, is_pair, pair, value
from tests.support import ODD_VALUES, Case, run_examples
from unsureworks.numbers import fraction_text, is_fraction, less, order, over, plus, read_fraction, times

EXAMPLES = """
>>> from unsureworks.numbers import fraction_text, is_fraction, less, order, over, plus, read_fraction, times
>>> is_fraction((0, 1)), is_fraction((2, 4)), is_fraction((0, 2)), is_fraction((1, -2)), is_fraction([1, 2]), is_fraction((True, 1))
(True, False, False, False, False, False)
>>> plus((1, 2), (1, 3)), less((1, 2), (1, 2)), times((2, 3), (3, 4)), over((1, 2), (-1, 4)), order((1, 3), (1, 2))
((5, 6), (0, 1), (1, 2), (-2, 1), -1)
>>> over((1, 2), (0, 1))
raises NoQuotient()
>>> fraction_text((3, 1)), fraction_text((-1, 2)), read_fraction("-7/3"), read_fraction("0")
('3', '-1/2', (-7, 3), (0, 1))
>>> read_fraction("2/4")
raises BadText(0)
"""

GREAT = 10 ** 40 - 1
FRACTIONS = [
    (0, 1), (1, 1), (-1, 1), (2, 1), (-2, 1), (1, 2), (-1, 2), (3, 2), (-3, 2), (1, 3), (2, 3), (-2, 3), (5, 6),
    (7, 12), (-7, 12), (10, 1), (1, 10), (-100, 1), (GREAT, 1), (-GREAT, 1), (1, GREAT), (-1, GREAT),
    (GREAT, GREAT - 1), (GREAT - 1, GREAT), (-GREAT, GREAT - 2), (2 ** 130, 3 ** 80), (-2 ** 130, 3 ** 80),
]


class TestFractions(Case):

    def test_examples(self):
        run_examples(self, EXAMPLES)

    def test_what_is_a_fraction(self):
        for f in FRACTIONS:
            self.gives(is_fraction, (f,), True)
        for odd in ODD_VALUES:
            self.gives(is_fraction, (odd,), False)

    def test_what_is_no_fraction(self):
        for odd in [(0, 1, 1), ((0, 1),), ((0, 1), (0, 1)), (0, 3), (0, -1), (4, 2), (-4, 2), (-4, -2), (7, 0), (0, 0),
                    (1, True), (True, True), (False, 1), ("1", 2), ("1", "2"), (1, None), {1: 2}, [0, 1], "01", "0/1",
                    (2 * GREAT, 2), (GREAT, GREAT), (3, -GREAT), ((1,), 2), (1, [2])]:
            self.gives(is_fraction, (odd,), False)

    def test_small_pairs(self):
        for top in range(-13, 14):
            for bottom in range(-3, 14):
                self.gives(is_fraction, ((top, bottom),), bottom > 0 and pair(top * value((1, bottom))) == (top, bottom))

    def check_pair(self, f, g):
        self.gives(plus, (f, g), pair(value(f) + value(g)))
        self.gives(less, (f, g), pair(value(f) - value(g)))
        self.gives(times, (f, g), pair(value(f) * value(g)))
        if g[0] == 0:
            self.fails(over, (f, g), "NoQuotient()")
        else:
            self.gives(over, (f, g), pair(value(f) / value(g)))
        self.gives(order, (f, g), (value(f) > value(g)) - (value(f) < value(g)))

    def test_reckoning(self):
        for f in FRACTIONS:
            for g in FRACTIONS:
                self.check_pair(f, g)

    def test_drawn(self):
        draw = Draw(1)
        for _ in range(200):
            self.check_pair(draw.fraction(), draw.fraction())

    def test_equal_and_contrary(self):
        for f in FRACTIONS:
            self.gives(less, (f, f), (0, 1))
            self.gives(plus, (f, (-f[0], f[1])), (0, 1))
            self.gives(order, (f, f), 0)
            if f[0]:
                self.gives(over, (f, f), (1, 1))
                self.gives(over, (f, (-f[0], f[1])), (-1, 1))

    def test_no_quotient(self):
        for f in FRACTIONS:
            self.fails(over, (f, (0, 1)), "NoQuotient()")
            if f[0]:
                self.gives(over, ((0, 1), f), (0, 1))

    def test_order_of_neighbours(self):
        self.gives(order, ((GREAT, GREAT - 1), (GREAT - 1, GREAT - 2)), -1)
        self.gives(order, ((GREAT - 1, GREAT - 2), (GREAT, GREAT - 1)), 1)
        self.gives(order, ((-GREAT, GREAT - 1), (-GREAT + 1, GREAT - 2)), 1)
        self.gives(order, ((-1, GREAT), (0, 1)), -1)
        self.gives(order, ((0, 1), (-1, GREAT)), 1)


TEXTS = {
    "0": (0, 1), "1": (1, 1), "-1": (-1, 1), "10": (10, 1), "-10": (-10, 1), "1/2": (1, 2), "-1/2": (-1, 2),
    "-7/3": (-7, 3), "3/10": (3, 10), "100/3": (100, 3), "1/100": (1, 100), "-101/100": (-101, 100),
    "9999999999999999999999999999999999999999": (GREAT, 1),
    "-9999999999999999999999999999999999999999/10000000000000000000000000000000000000000": (-GREAT, GREAT + 1),
    "1/9999999999999999999999999999999999999999": (1, GREAT),
    "1" + "0" * 64: (10 ** 64, 1), "1" + "0" * 63 + "1": (10 ** 64 + 1, 1), "9" * 64: (10 ** 64 - 1, 1),
    "9" * 63: (10 ** 63 - 1, 1), "-1" + "0" * 128 + "/" + "1" + "0" * 127 + "1": (-10 ** 128, 10 ** 128 + 1),
}

# Texts of no fraction; more are made of these and of texts of fractions below.
BAD_TEXTS = [
    "2/4", "3/1", "-0", "+1", "", " ", "-", "+", "/", "\n", "x", "1/", "/2", "-/2", "1/0", "0/1", "0/2", "-0/1", "00",
    "01", "-01", "1/02", "01/2", "1/2/3", "1//2", "--1", "-+1", "+-1", "1-", "1/-2", "-1/-2", "1/+2", "- 1", "1 /2",
    "1/ 2", "1 2", " 1", "1 ", "1\n", "\n1", "1\n2", "1/2\n", "1/2 ", "1.5", "1.0", "1e3", "1_000", "1,000", "0x10",
    "one", "None", "True", "(1, 2)", "1:2", "1%", "0.5", "-1/1", "4/6", "-4/6", "6/3", "1/1", "0/0", "-0/0", "000",
    "1/00", "~", "2/1", "7/7", "\t1", "1" * 2000 + "/" + "1" * 900 + "0" * 99, "0" * 3000, "-" * 3000, "/" * 3000,
    "0" + "1" * 2999, "-" + "0" * 2999, "1" * 1499 + "/" + "1" * 1499, "1/" + "0" * 2998, "1" * 2999 + "/",
    "1" * 2998 + "/1", "2" + "0" * 1400 + "/" + "1" + "0" * 1400, "1" * 1000 + "x" + "1" * 1000,
    "\u0661", "\u00b2", "1/\u0662", "\uff11",
]


class TestTexts(Case):

    def test_each_text(self):
        for text, f in TEXTS.items():
            self.gives(fraction_text, (f,), text)
            self.gives(read_fraction, (text,), f)

    def test_there_and_back(self):
        draw = Draw(2)
        for f in FRACTIONS + [draw.fraction() for _ in range(300)]:
            number = value(f)
            self.gives(fraction_text, (f,), str(number))
            self.gives(read_fraction, (str(number),), f)

    def test_no_text_of_a_fraction(self):
        for text in BAD_TEXTS:
            self.fails(read_fraction, (text,), "BadText(0)")

    def test_no_string(self):
        for odd in ODD_VALUES + [(0, 1), (1, 2), ["1"], ("1",), {"1": "1"}]:
            if odd not in ("0", "1/2", "1" * 3000):
                self.fails(read_fraction, (odd,), "BadText(0)")

    def test_one_sign_more(self):
        for text in ("0", "7", "-7", "7/3", "-7/30"):
            for place in range(len(text) + 1):
                for sign in " \n+-/x.0":
                    changed = text[:place] + sign + text[place:]
                    self.check_text(changed)

    def test_short_texts(self):
        signs = "-/012+ "
        texts = [""]
        for _ in range(4):
            texts += [text + sign for text in texts for sign in signs if len(text) < 4]
        for text in sorted(set(texts)):
            self.check_text(text)

    def check_text(self, text):
        """A text is read just if it is that of the number that Python reads in it."""
        try:
            number = value((1, 1)) * type(value((1, 1)))(text)
        except (ValueError, ZeroDivisionError):
            number = None
        if number is not None and str(number) == text:
            self.gives(read_fraction, (text,), pair(number))
        else:
            self.fails(read_fraction, (text,), "BadText(0)")

    def test_thousands_of_figures(self):
        """Many figures are figures all the same, however many Python takes at once."""
        many = 0
        for figure in "123456789" * 333:
            many = many * 10 + int(figure)
        text = "123456789" * 333
        self.gives_great(text, (many, 1))
        self.gives_great("-" + text, (-many, 1))
        self.gives_great(text + "/" + "1" + "0" * 2000, (many, 10 ** 2000))
        self.gives_great("-1/" + "1" + "0" * 4000, (-1, 10 ** 4000))
        self.gives_great("1" + "0" * 5000 + "/3", (10 ** 5000, 3))

    def gives_great(self, text, f):
        self.assertTrue(is_pair(f))
        self.assertTrue(read_fraction(text) == f)
        self.assertTrue(read_fraction(value=text) == f)
        self.assertTrue(fraction_text(f) == text)
        self.assertTrue(fraction_text(f=f) == text)


if __name__ == "__main__":
    unittest.main()
