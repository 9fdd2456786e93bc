"""The texts of sheets: [M7]."""

import unittest
from fractions import Fraction

from tests import test_sheets
from tests.oracle import Draw, pair
from tests.oracle_worlds import Worlds
from tests.support import ODD_VALUES, Case, outcome, run_examples
from unsureworks.errors import BadText, UnsureError
from unsureworks.sheets import KeptSheet, Sheet
from unsureworks.sheettexts import read_sheet, sheet_text
from unsureworks.spreads import even, lump

# They go on with the kept sheet of the examples ahead.
EXAMPLES = test_sheets.EXAMPLES + """
>>> from unsureworks.sheettexts import read_sheet, sheet_text
>>> sheet_text(k), read_sheet("b greatest a c\\nc sum 1/2 a 3\\na draw 0..1 1\\nseen not < a c").seen
('x draw 0..1 1\\ny draw 0..2 1/2', (('not', ('<', 'a', 'c')),))
>>> read_sheet("b least a a")
raises BadText(0)
"""

NONE, ONE, HALF, LESS = (0, 1), (1, 1), (1, 2), (-1, 1)
UNIT = even(NONE, ONE)
DRAW = ("draw", UNIT)
FULL = """a draw 0..1 1
b draw 1/4 @ -1/2; 1/4 @ 1/2; 0..1 1/2
c sum -1/2 a 2 b 0 d -7/3
d sum 5
e greatest a b
f least e e
g choice a < b c d
h choice a <= a a a
i choice g = h b e
seen < a b
seen not or <= a b and = c d not < e a
seen < a b"""


def sheet_of(*pairs, seen=()):
    """A sheet with names and contents; remarks are seen without being asked."""
    sheet = Sheet()
    for name, content in pairs:
        sheet.put(name, content)
    for remark in seen:
        sheet.see(remark)
    return sheet


def deep_not(many):
    """A remark behind so many "not"."""
    remark = ("<", "x", "y") if many % 2 == 0 else ("<=", "y", "x")
    for _ in range(many):
        remark = ("not", remark)
    return remark


class TextsCase(Case):

    def bad(self, text, place):
        """A text is none of a sheet, first at a place."""
        with self.subTest(text=repr(text)[:300]):
            for _ in range(2):
                with self.assertRaises(BadText) as caught:
                    read_sheet(text)
                self.assertEqual(caught.exception.place, place)
            self.assertEqual(outcome(read_sheet, value=text), outcome(read_sheet, text))


class TestSheetText(TextsCase):

    def test_examples(self):
        run_examples(self, EXAMPLES)

    def test_each_line(self):
        x, y = ("x", DRAW), ("y", ("draw", (((NONE, (1, 4)),), ((NONE, ONE, ((3, 4),)),))))
        for pairs, seen, text in (
                ((), (), ""), ((x,), (), "x draw 0..1 1"), ((y, x), (), "x draw 0..1 1\ny draw 1/4 @ 0; 0..1 3/4"),
                ((("d", ("draw", ((), ((NONE, ONE, ((3, 2), NONE, (-3, 2))),)))),), (), "d draw 0..1 3/2 - 3/2 x^2"),
                ((("s", ("sum", (), NONE)),), (), "s sum 0"), ((("s", ("sum", (), (-7, 3))),), (), "s sum -7/3"),
                ((x, y, ("s", ("sum", (((-1, 2), "x"), (NONE, "y")), HALF))), (), "s sum -1/2 x 0 y 1/2\nx draw 0..1 1\ny draw 1/4 @ 0; 0..1 3/4"),
                ((x, y, ("g", ("greatest", "y", "x")), ("l", ("least", "g", "g"))), (), "g greatest y x\nl least g g\nx draw 0..1 1\ny draw 1/4 @ 0; 0..1 3/4"),
                ((x, ("c", ("choice", "x", "<=", "x", "x", "x"))), (), "c choice x <= x x x\nx draw 0..1 1"),
                ((x, y), (("<", "x", "y"), ("not", ("=", "x", "y"))), "x draw 0..1 1\ny draw 1/4 @ 0; 0..1 3/4\nseen < x y\nseen not = x y"),
                ((x, y), (("or", ("and", ("<", "x", "y"), ("<=", "y", "y")), ("not", ("not", ("<=", "x", "y")))),),
                 "x draw 0..1 1\ny draw 1/4 @ 0; 0..1 3/4\nseen or and < x y <= y y not not <= x y")):
            sheet = sheet_of(*pairs, seen=seen)
            self.gives(sheet_text, (sheet,), text)
            back = self.told_sheet(text)
            self.assertTrue(back == sheet)
            self.assertEqual((back.version, back.made), (0, 0))

    def told_sheet(self, text):
        """What read_sheet tells, by place and by name: each time a new sheet."""
        found, other = read_sheet(text), read_sheet(value=text)
        self.assertIs(type(found), Sheet)
        self.assertTrue(found == other)
        self.assertIsNot(found, other)
        return found

    def test_remarks_as_deep_as_they_may_be(self):
        sheet = sheet_of(("x", DRAW), ("y", DRAW), seen=(deep_not(39),))
        text = "x draw 0..1 1\ny draw 0..1 1\nseen " + "not " * 39 + "<= y x"
        self.gives(sheet_text, (sheet,), text)
        self.assertTrue(read_sheet(text) == sheet)
        self.bad("x draw 0..1 1\ny draw 0..1 1\nseen " + "not " * 40 + "<= y x", 2)
        self.bad("x draw 0..1 1\ny draw 0..1 1\nseen " + "not " * 700 + "<= y x", 2)

    def test_copies_and_kept_ones(self):
        sheet = read_sheet(FULL.replace("c d", "a b").replace("seen not", "seen"))
        self.gives(sheet_text, (sheet,), sheet_text(sheet))
        self.gives(sheet_text, (sheet.copy(),), sheet_text(sheet))
        self.gives(sheet_text, (KeptSheet(sheet_of(("x", DRAW)), ("=", "x", "x"), NONE),), "x draw 0..1 1")

    def test_drawn_ones(self):
        worlds = Worlds(Draw(1600))
        lot = worlds.lot
        for _ in range(60):
            sheet = Sheet()
            for _ in range(lot.randint(0, 8)):
                names = list(sheet)
                word = lot.choice(["draw", "sum", "greatest", "choice"]) if names else "draw"
                content = {"draw": ("draw", worlds.spread())}
                if names:
                    some = sorted({lot.choice(names) for _ in range(2)})
                    content.update(sum=("sum", tuple((pair(worlds.draw.small()), name) for name in some), pair(worlds.draw.small())),
                                   greatest=(lot.choice(["greatest", "least"]), lot.choice(names), lot.choice(names)),
                                   choice=("choice", lot.choice(names), lot.choice(["<", "<=", "="]), lot.choice(names), lot.choice(names), lot.choice(names)))
                try:
                    sheet.put(lot.choice(["a", "bb", "c", "zz", "seenx", "draw", "not", "d", "e"]), content[word])
                    sheet.see((lot.choice(["<", "<="]), lot.choice(list(sheet)), lot.choice(list(sheet))))
                except UnsureError:
                    pass
            text = sheet_text(sheet)
            self.assertTrue(self.told_sheet(text) == sheet)
            self.assertEqual(sheet_text(read_sheet(text)), text)
            # Lines of names in any order.
            rows = text.split("\n")
            names, seen = [row for row in rows if not row.startswith("seen ")], [row for row in rows if row.startswith("seen ")]
            lot.shuffle(names)
            self.assertTrue(read_sheet("\n".join(names + seen)) == sheet)


class TestReadSheet(TextsCase):

    def test_values_that_are_no_strings(self):
        for odd in ODD_VALUES + [b"", b"a draw 0..1 1", [FULL], (FULL,), Sheet()]:
            if not isinstance(odd, str):
                self.bad(odd, 0)

    def test_a_text_with_each_line(self):
        sheet = read_sheet(FULL)
        self.assertEqual(sheet.names, tuple("abcdefghi"))
        self.assertEqual(sheet["b"], ("draw", ((((-1, 2), (1, 4)), (HALF, (1, 4))), ((NONE, ONE, (HALF,)),))))
        self.assertEqual(sheet["c"], ("sum", (((-1, 2), "a"), ((2, 1), "b"), (NONE, "d")), (-7, 3)))
        self.assertEqual((sheet["d"], sheet["e"], sheet["f"]), (("sum", (), (5, 1)), ("greatest", "a", "b"), ("least", "e", "e")))
        self.assertEqual((sheet["g"], sheet["i"]), (("choice", "a", "<", "b", "c", "d"), ("choice", "g", "=", "h", "b", "e")))
        self.assertEqual(sheet.seen, (("<", "a", "b"), ("not", ("or", ("<=", "a", "b"), ("and", ("=", "c", "d"), ("not", ("<", "e", "a"))))), ("<", "a", "b")))
        self.assertEqual((sheet.version, sheet.made, sheet_text(sheet)), (0, 0, FULL))
        with self.assertRaises(UnsureError):
            sheet.undo()
        self.assertEqual((sheet.put("z", DRAW), sheet.made), (1, 0))
        # Nothing is asked of chances.
        self.assertEqual(read_sheet("x draw 0..1 1\nseen < x x").seen, (("<", "x", "x"),))
        self.assertEqual(read_sheet("x draw 1 @ 0\nseen and < x x and < x x and < x x < x x\nseen < x x").seen[1], ("<", "x", "x"))

    def test_empty_texts(self):
        self.assertTrue(read_sheet("") == Sheet())
        for text, place in (("\n", 0), (" ", 0), ("x draw 0..1 1\n", 1), ("\nx draw 0..1 1", 0), ("x draw 0..1 1\n\ny draw 0..1 1", 1), ("x draw 0..1 1\n ", 1), ("x draw 0..1 1 ", 0), (" x draw 0..1 1", 0),
                            ("x draw 0..1 1\nseen < x x\n", 2)):
            self.bad(text, place)

    def test_lines_that_are_none(self):
        for line in ("x", "x ", "x draw", "x draw ", "draw", "x  draw 0..1 1", "x draw  0..1 1", "x draw 0..1", "x draw 0..1 1;", "x draw 0..1 x", "x draw 2/4 @ 0; 0..1 1/2", "x draw 0..1 1 1", "x drew 0..1 1",
                     "x draw 0..1 1/2", "x draw 0..1 2", "x draw 0..1 -1", "x draw", "x draw 0 @ 1", "x draw 1 @ 0; 1 @ 1", "x draw 1..0 1", "x draw 1 @ 1000000", "x draw 0..1 4 x^3",
                     "x draw 1/3 @ 0; 1/3 @ 1; 1/3 @ 2", "x draw 0..1 1/4; 2..3 1/4; 4..5 1/4; 6..7 1/4", "X draw 0..1 1", "seen draw 0..1 1", "x1 draw 0..1 1", "abcdefghijklm draw 0..1 1", " draw 0..1 1", "-x draw 0..1 1",
                     "x sum", "x sum ", "x sum 1 a", "x sum a", "x sum a 1", "x sum 1 a 1 a 0", "x sum 1 b 1 a 0", "x sum 2/4", "x sum 1 a 0 ", "x sum 1  a 0", "x sum 1 a 1 0", "x sum +1", "x sum 1/1", "x sum 1 A 0",
                     "x sum 1 seen 0", "x sum 01", "x sum -0", "x sums 0",
                     "x greatest a", "x greatest", "x greatest a b c", "x greatest a  b", "x greatest a B", "x greatest a b ", "x least 1 a", "x Least a a", "x greatest a,b", "x least a seen",
                     "x choice a < b a", "x choice a < b a b a", "x choice a b a b", "x choice a > b a b", "x choice a == b a b", "x choice < a b a b", "x choice a < b a b ", "x choice a < b a 1", "x choice a  < b a b",
                     "x shift a 1", "x shift a", "x < a b", "x and < a b", "< a b", "not < a b", "x 1", "x seen < a b", "?"):
            for ahead in ("", "a draw 0..1 1\n", "a draw 0..1 1\nb sum 1\n"):
                self.bad(ahead + line, ahead.count("\n"))
                self.bad(ahead + line + "\nc draw 0..1 1", ahead.count("\n"))

    def test_remarks_that_are_none(self):
        for line in ("seen", "seen ", "seen  < a b", "seen <", "seen < a", "seen < a b c", "seen < a b ", "seen a < b", "seen > a b", "seen < a B", "seen < a 1", "seen and", "seen and < a b", "seen and < a b < a b < a b",
                     "seen and < a b < a", "seen not", "seen not < a b not < a b", "seen not not", "seen or < a b", "seen Not < a b", "seen not  < a b", "seen < a seen", "seen seen < a b", "seen a", "seen a draw 0..1 1",
                     "seen and and < a b < a b and < a b and < a b < a b", "Seen < a b", "seen\t< a b", "seen < a b, < a b", "seen and < a or < b a < a b", "seen < < a b", "seen not and", "seen = a =", "seen < and a"):
            self.bad("a draw 0..1 1\nb draw 0..1 1\n" + line, 2)
            self.bad(line, 0)
            self.bad("a draw 0..1 1\nb draw 0..1 1\nseen < a b\n" + line, 3)

    def test_lines_that_cannot_stand_there(self):
        for text, place in (("a draw 0..1 1\na draw 0..1 1", 1), ("a draw 0..1 1\nb sum 0\na sum 0", 2), ("a draw 0..1 1\nseen < a a\nb draw 0..1 1", 2), ("a draw 0..1 1\nseen < a a\na draw 0..1 1", 2),
                            ("seen < a a\na draw 0..1 1", 1), ("a draw 0..1 1\nseen < a a\nb draw", 2), ("a draw 0..1 1\nseen < a a\nseen", 2), ("a draw 0..1 1\na", 1)):
            self.bad(text, place)

    def test_names_that_no_line_tells(self):
        for text, place in (("a sum 1 b 0", 0), ("a draw 0..1 1\nb greatest a c", 1), ("a draw 0..1 1\nb greatest c a\nd sum 1 e 0", 1), ("a draw 0..1 1\nb choice a < a a q", 1), ("a draw 0..1 1\nseen < a b", 1),
                            ("a draw 0..1 1\nb sum 1 a 0\nseen < a b\nseen < b c\nseen < d a", 3), ("seen < a a", 0), ("a draw 0..1 1\nseen and < a a not = a z", 1),
                            ("a sum 1 b 0\nb draw 0..1 1\nc sum 1 d 0", 2)):
            self.bad(text, place)
        # Faults of the lines themselves come first, wherever they stand.
        for text, place in (("a sum 1 b 0\nc", 1), ("a sum 1 b 0\nc draw 0..1 1\nc draw 0..1 1", 2), ("a sum 1 a 0\nb draw 0..1 1/2", 1), ("a sum 1 b 0\nseen < a q\nseen", 2), ("a sum 1 b 0\nseen < a a\nb draw 0..1 1", 2)):
            self.bad(text, place)
        self.assertTrue(read_sheet("a sum 1 b 0\nb draw 0..1 1") == sheet_of(("b", DRAW), ("a", ("sum", ((ONE, "b"),), NONE))))

    def test_rings(self):
        for text, place in (("a sum 1 a 0", 0), ("a draw 0..1 1\nb sum 0 b 0", 1), ("a sum 1 b 0\nb sum 1 a 0", 0), ("a draw 0..1 1\nb sum 1 c 0\nc greatest a d\nd choice a < a a b", 1),
                            ("x sum 1 b 0\na draw 0..1 1\nb sum 1 c 0\nc least a b", 2), ("x sum 1 b 0\na draw 0..1 1\nc least a b\nb sum 1 c 0", 2), ("x sum 1 q 0\na sum 1 a 0", 0), ("a sum 1 a 0\nx sum 1 q 0", 0),
                            ("x sum 1 a 0\na sum 1 a 0\ny sum 1 q 0", 1), ("a sum 1 b 0\nb sum 1 c 0\nc draw 0..1 1\nd sum 1 d 0\nseen < q q", 3), ("a sum 1 b 1 q 0\nb sum 1 a 0", 0),
                            ("b sum 1 a 0\na sum 1 b 1 q 0", 0)):
            self.bad(text, place)

    def test_lines_in_any_order(self):
        rows = FULL.split("\n")
        for k in range(9):
            turned = rows[k:9] + rows[:k] + rows[9:]
            self.assertTrue(read_sheet("\n".join(turned)) == read_sheet(FULL))
            self.assertEqual(sheet_text(read_sheet("\n".join(turned))), FULL)

    def test_spoilt_at_any_place(self):
        """Texts with one letter more, less or another one: each is bad, or tells a sheet that has just this text."""
        lot = Draw(1601).lot
        bad = 0
        for _ in range(400):
            place = lot.randrange(len(FULL))
            letter = lot.choice(" \n0123456789/-.;@abcdefghix^+<=sn")
            text = lot.choice([FULL[:place] + letter + FULL[place:], FULL[:place] + letter + FULL[place + 1:], FULL[:place] + FULL[place + 1:]])
            try:
                found = read_sheet(text)
            except BadText as error:
                self.assertTrue(0 <= error.place <= text.count("\n"))
                bad += 1
                continue
            self.assertEqual(sorted(sheet_text(found).split("\n")[:9]), sorted(text.split("\n")[:9]))
            self.assertEqual(sheet_text(found).split("\n")[9:], text.split("\n")[9:])
        self.assertGreater(bad, 200)

    def test_what_was_read_is_led_on(self):
        sheet = read_sheet("x draw 0..1 1\ny draw 0..1 1\nz greatest x y\nseen < x y")
        self.assertEqual((sheet.mean("z"), sheet.made, sheet.forget(0), sheet.mean("x"), sheet.undo(), sheet.seen), ((2, 3), 1, 1, HALF, 0, (("<", "x", "y"),)))
        self.assertEqual(sheet.at(0)[1], (("<", "x", "y"),))
        self.assertEqual(Fraction(*sheet.chance(("<", "z", "y"))), 0)
        self.assertEqual(sheet.put("x", ("draw", lump(LESS))), 1)


if __name__ == "__main__":
    unittest.main()
