"""The texts of spreads: [B6], [B7]."""

import re
import unittest
from fractions import Fraction

from tests.oracle import Draw, curve_value, is_curve, pair, poly, poly_integral, poly_times, value
from tests.support import ODD_VALUES, Case, outcome, run_examples
from unsureworks.errors import BadSpread
from unsureworks.spreads import spread_error
from unsureworks.spreadtexts import read_spread, spread_text

EXAMPLES = """
>>> from unsureworks.spreads import chance_of, ends, even, heaped, lump, mean, moment, spread_error, tent
>>> nought, half, whole_one, two = (0, 1), (1, 2), (1, 1), (2, 1)
>>> some = (((nought, (1, 4)),), ((nought, whole_one, ((3, 4),)),))
>>> from unsureworks.spreadtexts import read_spread, spread_text
>>> spread_text(some), spread_text(tent(nought, whole_one, two))
('1/4 @ 0; 0..1 3/4', '0..1 1 x; 1..2 2 - 1 x')
>>> spread_text(((((-1, 2), (1, 3)), (half, (1, 6))), ((nought, whole_one, ((0, 1), (0, 1), (3, 2))),)))
'1/3 @ -1/2; 1/6 @ 1/2; 0..1 3/2 x^2'
>>> spread_text(((), ((nought, whole_one, ((3, 2), (0, 1), (-3, 2))),)))
'0..1 3/2 - 3/2 x^2'
>>> read_spread("1/4 @ 0; 0..1 3/4") == some, read_spread("0..1 1 x; 1..2 2 - 1 x") == tent(nought, whole_one, two)
(True, True)
>>> read_spread("1/4 @ 0; 0..1 x")
raises BadText(1)
>>> read_spread("0..1 3/4; 1/4 @ 0")
raises BadText(1)
>>> read_spread("")
raises BadText(0)
>>> read_spread("1/4 @ 0; 0..1 1/2")
raises BadSpread(('whole', (3, 4)))
>>> read_spread("0 @ 1")
raises BadSpread(('lump', 0))
"""


def piece(low, high, *numbers):
    """A piece with these factors."""
    return pair(low), pair(high), poly(*numbers)


def weight(place, share):
    """A lump."""
    return pair(place), pair(share)


HALF, GREAT = Fraction(1, 2), 10 ** 40 - 1
SPREADS = {
    "1 @ 0": ((weight(0, 1),), ()),
    "1 @ -7/3": ((weight(Fraction(-7, 3), 1),), ()),
    "1/2 @ 0; 1/2 @ 1": ((weight(0, HALF), weight(1, HALF)), ()),
    "0..1 1": ((), (piece(0, 1, 1),)),
    "0..1 2 x": ((), (piece(0, 1, 0, 2),)),
    "0..1 2 - 2 x": ((), (piece(0, 1, 2, -2),)),
    "-1..0 -2 x": ((), (piece(-1, 0, 0, -2),)),
    "-1..1 1/2 - 1/2 x^3": ((), (piece(-1, 1, HALF, 0, 0, -HALF),)),
    "-1..0 -4 x - 6 x^2 - 4 x^3": ((), (piece(-1, 0, 0, -4, -6, -4),)),
    "1..2 -2 + 2 x": ((), (piece(1, 2, -2, 2),)),
    "0..2 3/2 - 3 x + 3/2 x^2": ((), (piece(0, 2, Fraction(3, 2), -3, Fraction(3, 2)),)),
    "-1/2..1/2 1/2 + 1 x^3; 1/2..3/2 1/2": ((), (piece(-HALF, HALF, HALF, 0, 0, 1), piece(HALF, 3 * HALF, HALF))),
    "1/4 @ -3; 1/4 @ 1/2; 0..1 1/2": ((weight(-3, HALF / 2), weight(HALF, HALF / 2)), (piece(0, 1, HALF),)),
    "0..1 10 x^9": ((), (piece(0, 1, *[0] * 9, 10),)),
    "0..1 11 x^10": ((), (piece(0, 1, *[0] * 10, 11),)),
    "0..1 41 x^40": ((), (piece(0, 1, *[0] * 40, 41),)),
    "0..1 40 x^39": ((), (piece(0, 1, *[0] * 39, 40),)),
    f"1 @ 1/{GREAT}": ((weight(Fraction(1, GREAT), 1),), ()),
    f"1/{GREAT} @ -{GREAT}; {GREAT - 1}/{GREAT} @ {GREAT}":
        ((weight(-GREAT, Fraction(1, GREAT)), weight(GREAT, Fraction(GREAT - 1, GREAT))), ()),
}

# Texts with the place of the first part that can not stand there.
BAD_TEXTS = {
    "": 0, " ": 0, ";": 0, "; ": 0, "; 1 @ 0": 0, "1 @ 0; ": 1, "1 @ 0;": 0, "1 @ 0; ; 0..1 1": 1, "1 @ 0;0..1 1": 0,
    "1/2 @ 0;  1/2 @ 1": 1, "1/2 @ 0 ; 1/2 @ 1": 0, "1/2 @ 0; 1/2 @ 1 ": 1, " 1 @ 0": 0, "1 @ 0\n": 0, "\n1 @ 0": 0,
    "1/2 @ 0;\n1/2 @ 1": 0, "1/2 @ 0\n; 1/2 @ 1": 0, "1@0": 0, "1 @0": 0, "1@ 0": 0, "1  @ 0": 0, "1 @  0": 0,
    "1 @": 0, "@ 0": 0, "1 @ ": 0, " @ 0": 0, "1": 0, "@": 0, " @ ": 0, "1 @ 0 @ 1": 0, "1/4@0": 0, "2/8 @ 0": 0,
    "2/2 @ 0": 0, "1/1 @ 0": 0, "1 @ 0/1": 0, "1 @ 2/4": 0, "1 @ -0": 0, "+1 @ 0": 0, "1 @ +1": 0, "01 @ 0": 0,
    "1 @ 00": 0, "1 @ x": 0, "x @ 1": 0, "1 @ 0.5": 0, "1/2 @ 0; 2/4 @ 1": 1, "1/2 @ 0, 1/2 @ 1": 0, "one @ 0": 0,
    "0..1": 0, "0..1 ": 0, "0..1  1": 0, "0..1 1 ": 0, " 0..1 1": 0, "0...1 1": 0, "0.1 1": 0, "0..1..2 1": 0,
    "0 ..1 1": 0, "0.. 1 1": 0, "..1 1": 0, "0.. 1": 0, "0..1 x": 0, "0..1 0": 0, "0..1 0 x": 0, "0..1 1 + 0 x": 0,
    "0..1 1 - 0 x": 0, "0..1 0 + 1 x": 0, "0..1 1 x^0": 0, "0..1 1 x^1": 0, "0..1 2 x^02": 0, "0..1 2 x^": 0,
    "0..1 2 x^-1": 0, "0..1 2 x^+2": 0, "0..1 2 x^2.0": 0, "0..1 2 x2": 0, "0..1 2x": 0, "0..1 2 X": 0, "0..1 2*x": 0,
    "0..1 2 x ^2": 0, "0..1 2 x^ 2": 0, "0..1 2 x x": 0, "0..1 1 1": 0, "0..1 1 + 1": 0, "0..1 1 x + 1": 0,
    "0..1 1 x + 1 x": 0, "0..1 1 x^2 + 1 x": 0, "0..1 1 x^3 + 1 x^2": 0, "0..1 1 x^2 + 1 x^2": 0, "0..1 1 x^2 + 1": 0,
    "0..1 1 + -1 x": 0, "0..1 1 - -1 x": 0, "0..1 1 +1 x": 0, "0..1 1 -1 x": 0, "0..1 1+ 1 x": 0, "0..1 1 +  1 x": 0,
    "0..1 1  + 1 x": 0, "0..1 1 +": 0, "0..1 1 + ": 0, "0..1 + 1": 0, "0..1 - 1": 0, "0..1 1 + x": 0, "0..1 1 + 1 x +": 0,
    "0..1 1 + + 1 x": 0, "0..1 1 - + 1 x": 0, "0..1 2/4": 0, "0..1 1/1": 0, "0..1 -0": 0, "0..1 +1": 0, "0..1 01": 0,
    "0..2/2 1": 0, "-0..1 1": 0, "0..01 1": 0, "0..1 1 x^41": 0, "0..1 42 x^41": 0, "0..1 1 x^400": 0,
    "0..1 1 x^040": 0, "0..1 1 + 1 x^41": 0, "0..1 1 x^" + "9" * 2900: 0, "0..1 1 x^" + "2" * 5000: 0, "0..1 " + "1" * 2000 + "x": 0,
    "0..1 3/4; 1/4 @ 0": 1, "0..1 1/2; 1/4 @ 0; 1/4 @ x": 1, "1/4 @ 0; 0..1 1/2; 1/4 @ 2": 2, "0..1 1; 1 @ 0; 0..1 1": 1,
    "1/4 @ 0; 0..1 x": 1, "0..1 1; 1..2 0": 1, "0..1 x; 1 @ 0": 0, "0 @ 1; 0..1 0": 1, "1..0 1; 1..0 x": 1,
    "1 @ 0; 1 @ 0; 1@0": 2, "0..1 1;  1..2 1": 1, "0..1 1; 1..2 1;": 1, "(0, 1)": 0, "None": 0, "0..1 1 x^2 ": 0,
    "0..1 1 x\n": 0, "0..1\n1": 0, "0..1 1\n+ 1 x": 0, "x": 0, "x^2": 0, "0..1 x^2": 0, "0..1 1 x^\u00b2": 0,
    "0..1 1 - 1": 0, "0..1 -x": 0, "0..1 1 y": 0, "0..1 1 x^x^2": 0, "0..1 1 x^2 x": 0, "0..1 1 x x^2": 0,
}

# Texts whose parts are all items, with the error of what they tell.
BAD_SPREADS = {
    "0 @ 1": ("lump", 0), "-1 @ 0": ("lump", 0), "1/2 @ 0; 0 @ 1": ("lump", 1), "1/2 @ 0; 1/2 @ 0": ("lump", 1),
    "1/2 @ 1; 1/2 @ 0": ("lump", 1), "1 @ 0; 0 @ -1; 0..1 1": ("lump", 1), "1..0 1": ("curve", ("piece", 0)),
    "0..0 1": ("curve", ("piece", 0)), "0..1 1; 2..2 1": ("curve", ("piece", 1)), "0..1 1/2; 0..1 1/2": ("curve", ("order", 1)),
    "1..2 1/2; 0..1 1/2": ("curve", ("order", 1)), "0..1 1/2; 1..2 1/2": ("curve", ("alike", 1)), "1 @ 0; 0..1 1": ("whole", (2, 1)),
    "1/2 @ 0": ("whole", (1, 2)), "2 @ 0": ("whole", (2, 1)), "0..1 1/2": ("whole", (1, 2)), "0..1 1 x^40": ("whole", (1, 41)),
    "1 @ 0; 1..0 1": ("curve", ("piece", 0)), "0 @ 0; 1..0 1": ("lump", 0), "1/4 @ 0; 0..1 1/2": ("whole", (3, 4)),
}


def plain_text(spread):
    """The text of a spread, made another way."""
    items = [f"{value(share)} @ {value(place)}" for place, share in spread[0]]
    for low, high, p in spread[1]:
        terms = []
        for power, f in enumerate(p):
            if value(f):
                terms.append(str(value(f)) + ("" if power == 0 else " x" if power == 1 else f" x^{power}"))
        text = terms[0] + "".join(f" - {term[1:]}" if term[0] == "-" else f" + {term}" for term in terms[1:])
        items.append(f"{value(low)}..{value(high)} {text}")
    return "; ".join(items)


NUMBER = "(?:0|-?[1-9][0-9]*(?:/[1-9][0-9]*)?)"
TERM = NUMBER + "(?: x(?:\\^[1-9][0-9]*)?)?"
ITEM = re.compile(f"(?:({NUMBER}) @ ({NUMBER})|({NUMBER})\\.\\.({NUMBER}) ({TERM}(?: [+-] {TERM})*))")


def plain_number(text):
    """The Fraction with just this text, or None."""
    number = Fraction(text)
    return number if str(number) == text else None


def plain_item(part):
    """What an item tells, in another way: a lump, a piece, or None."""
    found = ITEM.fullmatch(part)
    if not found:
        return None
    numbers = [plain_number(text) for text in found.groups()[:4] if text is not None]
    if None in numbers:
        return None
    if found.group(5) is None:
        return weight(numbers[1], numbers[0])
    factors = [Fraction(0)] * 41
    powers = []
    for sign, term in re.findall(f"( [+-] |^)({TERM})", found.group(5)):
        words = term.split(" ")
        number = plain_number(words[0])
        power = 0 if len(words) == 1 else 1 if words[1] == "x" else int(words[1][2:])
        if not number or (sign and number < 0) or (len(words) == 2 and words[1] in ("x^0", "x^1")) or power > 40:
            return None
        powers.append(power)
        factors[power] = -number if sign == " - " else number
    if powers != sorted(set(powers)):
        return None
    return piece(numbers[0], numbers[1], *factors)


def plain_outcome(text):
    """What read_spread is to do with a text."""
    lumps, pieces = [], []
    for place, part in enumerate(text.split("; ")):
        item = plain_item(part)
        if item is None or (len(item) == 2 and pieces):
            return "raised", "BadText", repr({"place": place})
        (lumps if len(item) == 2 else pieces).append(item)
    spread = (tuple(lumps), tuple(pieces))
    error = spread_error(spread)
    if error is None:
        return "returned", repr(spread)
    return "raised", "BadSpread", repr({"error": error})


class TestSpreadTexts(Case):

    def test_examples(self):
        run_examples(self, EXAMPLES)

    def test_there_and_back(self):
        draw = Draw(40)
        for text, spread in SPREADS.items():
            self.assertEqual(plain_text(spread), text)
        for spread in list(SPREADS.values()) + [draw.spread() for _ in range(100)]:
            text = plain_text(spread)
            self.gives(spread_text, (spread,), text)
            self.gives(read_spread, (text,), spread)

    def test_long_ones(self):
        numbers = [Fraction(k % 5 - 2, k + 1) for k in range(12)] + [9]
        total = poly_integral(poly(*numbers), Fraction(3), Fraction(4))
        spread = ((), ((pair(3), pair(4), poly_times(poly(*numbers), poly(1 / total))),))
        self.gives(spread_text, (spread,), plain_text(spread))
        self.gives(read_spread, (plain_text(spread),), spread)
        many = (tuple(weight(Fraction(k, 7), Fraction(1, 50)) for k in range(25)),
                tuple(piece(k, Fraction(2 * k + 1, 2), Fraction(1, 25)) for k in range(25)))
        self.assertTrue(is_curve(many[1]))
        self.gives(spread_text, (many,), plain_text(many))
        self.gives(read_spread, (plain_text(many),), many)

    def test_no_string(self):
        for odd in ODD_VALUES + [((), ()), ["1 @ 0"], ("1 @ 0",), {"1 @ 0": 1}, SPREADS["1 @ 0"]]:
            if not isinstance(odd, str):
                self.fails(read_spread, (odd,), "BadText(0)")

    def test_odd_strings(self):
        for odd in ODD_VALUES:
            if isinstance(odd, str):
                self.fails(read_spread, (odd,), "BadText(0)")

    def test_bad_texts(self):
        for text, place in BAD_TEXTS.items():
            self.fails(read_spread, (text,), f"BadText({place})")

    def test_bad_spreads(self):
        for text, error in BAD_SPREADS.items():
            self.fails(read_spread, (text,), f"BadSpread({error!r})")

    def test_curves_below_nought(self):
        for text, curve in (("0..1 -1", (piece(0, 1, -1),)), ("0..2 2 - 3 x", (piece(0, 2, 2, -3),)),
                            ("0..1 1; 1..2 -1 x^2", (piece(0, 1, 1), piece(1, 2, 0, 0, -1))),
                            ("0..2 -2 + 1 x^2", (piece(0, 2, -2, 0, 1),))):
            with self.assertRaises(BadSpread) as caught:
                self.told(read_spread, text)
            word, place = caught.exception.error
            self.assertEqual(word, "below")
            self.assertLess(curve_value(curve, value(place)), 0)

    def test_changed_texts(self):
        """Texts of spreads with a sign taken out, put in or changed are read just if they are still such texts."""
        draw = Draw(41)
        for text in list(SPREADS)[:17] + [plain_text(draw.spread()) for _ in range(10)]:
            places = range(len(text)) if len(text) < 60 else sorted(draw.lot.sample(range(len(text)), 40))
            for place in places:
                rest = text[place + 1:]
                for sign in ["", text[place] * 2, "0", "1", "-", " ", draw.lot.choice("x^+;./@\n~"), draw.lot.choice("x^+;./@\n~")]:
                    changed = text[:place] + sign + rest
                    with self.subTest(changed):
                        self.assertEqual(outcome(read_spread, changed), plain_outcome(changed))

    def test_thousands_of_figures(self):
        text = "1" + "0" * 1400
        spread = read_spread("1 @ 1/" + text)
        self.assertTrue(spread == ((((1, 10 ** 1400), (1, 1)),), ()))
        self.assertTrue(spread_text(spread) == "1 @ 1/" + text)
        self.fails(read_spread, ("1/2 @ 0; 1 @ 2/" + text,), "BadText(1)")


if __name__ == "__main__":
    unittest.main()
