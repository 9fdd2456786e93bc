"""Sheets: [M1] to [M6], and [A2] (g)."""

import copy
import itertools
import time
import unittest
from fractions import Fraction

from tests.oracle import Draw, pair, poly, shared
from tests.oracle_sheets import Model
from tests.oracle_worlds import Worlds
from tests.support import ODD_VALUES, Case, outcome, run_examples, told_error
from unsureworks import errors
from unsureworks.bounds import (BATCH, MAX_BOXES, MAX_CHOICES, MAX_COMPARED, MAX_DRAWS, MAX_EDITS, MAX_LINES, MAX_MATTER,
                                MAX_MATTER_THREE)
from unsureworks.errors import Changed, NoChance, Rejected, TooMany, Unfit, UnsureError
from unsureworks.sheets import KeptSheet, Sheet
from unsureworks.spreads import even, lump, spread_error, tent
from unsureworks.worlds import world_error

EXAMPLES = """
>>> from unsureworks.sheets import KeptSheet, Sheet
>>> from unsureworks.spreads import even, lump
>>> s = Sheet()
>>> s.put("x", ("draw", even((0, 1), (1, 1)))), s.put("y", ("draw", even((0, 1), (1, 1))))
(1, 2)
>>> s.put("z", ("sum", (((1, 1), "x"), ((-1, 1), "y")), (0, 1))), s.names, s["z"]
(3, ('x', 'y', 'z'), ('sum', (((1, 1), 'x'), ((-1, 1), 'y')), (0, 1)))
>>> s.mean("z"), s.chance(("<", "x", "y")), s.chance(("<", "x", "y")), s.made
((0, 1), (1, 2), (1, 2), 2)
>>> s.see(("<", "x", "y")), s.mean("z"), s.mean("x"), s.made
(4, (-1, 3), (1, 3), 4)
>>> s.undo(), s.mean("z"), s.made, s.redo(), s.mean("x"), s.made
(3, (0, 1), 4, 4, (1, 3), 4)
>>> s.put("x", ("sum", (((1, 1), "z"),), (0, 1)))
raises Rings('x')
>>> s.drop("y")
raises InUse('z')
>>> s.forget(0), s.put("y", ("draw", lump((2, 1)))), s.chance(("<=", "y", "x")), s.made
(5, 6, (0, 1), 5)
>>> k = KeptSheet(s, ("<", "x", "y"), (3, 4))
>>> k.version, k.made, k.put("y", ("draw", even((0, 1), (2, 1)))), k.made
(0, 1, 1, 2)
>>> k.put("y", ("draw", even((0, 1), (1, 1))))
raises Changed((1, 2))
>>> k.drop("z"), k.drop("y")
raises Changed(None)
"""

NONE, ONE, HALF, LESS, TWO = (0, 1), (1, 1), (1, 2), (-1, 1), (2, 1)
UNIT, COIN = even(NONE, ONE), (((NONE, HALF), (ONE, HALF)), ())
DRAW, FLIP = ("draw", UNIT), ("draw", COIN)
SAY = ("<", "x", "y")
BAD_NAMES = ODD_VALUES + ["seen", "X", "xY", "x y", " x", "x ", "x1", "x_", "a" * 13, "x\n", "\n", "-", "x-y", ("x",), ["x"], {"x": 1}, b"x"]
METHODS = {"put": "name content", "drop": "name", "see": "remark", "forget": "place", "batch": "edits", "chance": "remark", "mean": "name",
           "spread": "name", "undo": "", "redo": "", "at": "version", "copy": "", "attempt": "work"}


def sum_of(*names, constant=NONE):
    """A content that adds up names."""
    return "sum", tuple((ONE, name) for name in sorted(names)), constant


def state_of(sheet):
    """All that can be seen of a sheet."""
    names = sheet.names
    return (names, [sheet[name] for name in names], sheet.seen, sheet.version, [sheet.at(k) for k in range(sheet.version + 1)])


class SheetCase(Case):

    def setUp(self):
        self.sheet = Sheet()
        self.sheet.put("x", DRAW)
        self.sheet.put("y", DRAW)
        self.sheet.put("z", ("sum", ((ONE, "x"), (LESS, "y")), NONE))

    def refused(self, sheet, method, args, error):
        """A call of a method raises an error, by place and by name, and changes nothing; what was made may change."""
        ahead, given = state_of(sheet), copy.deepcopy(args)
        undone = len(sheet._undone)
        with self.subTest(method=method, args=repr(args)[:300]):
            for _ in range(2):
                self.assertEqual(outcome(getattr(sheet, method), *args), ("raised",) + told_error(error))
            named = dict(zip(METHODS[method].split(), args))
            self.assertEqual(outcome(getattr(sheet, method), **named), ("raised",) + told_error(error))
            self.assertEqual(state_of(sheet), ahead)
            self.assertEqual(len(sheet._undone), undone)
            self.assertTrue(args == given)


class TestSheet(SheetCase):

    def test_examples(self):
        run_examples(self, EXAMPLES)

    def test_a_new_sheet(self):
        s = Sheet()
        self.assertEqual((s.names, s.seen, s.version, s.made, len(s), list(s)), ((), (), 0, 0, 0, []))
        self.assertEqual(s.at(0), ((), ()))
        self.assertIs(type(s.names), tuple)
        self.assertIs(type(s.seen), tuple)
        for word in ("undo", "redo"):
            self.refused(s, word, (), "NothingToUndo()" if word == "undo" else "NothingToRedo()")
        self.assertEqual(s, Sheet())

    def test_each_method_stands_in_its_class(self):
        for name in METHODS:
            self.assertIn(name, vars(Sheet))
        for name in ("__init__", "__len__", "__contains__", "__iter__", "__getitem__", "__eq__", "names", "seen", "version", "made"):
            self.assertIn(name, vars(Sheet))
        self.assertIn("copy", vars(KeptSheet))
        self.assertTrue(issubclass(KeptSheet, Sheet))

    def test_what_can_only_be_read(self):
        for name in ("names", "seen", "version", "made"):
            with self.assertRaises(AttributeError):
                setattr(self.sheet, name, getattr(self.sheet, name))
        self.sheet.see(SAY)
        self.sheet.mean("x")
        self.assertEqual((self.sheet.names, self.sheet.seen, self.sheet.version, self.sheet.made, len(self.sheet)), (("x", "y", "z"), (SAY,), 4, 2, 3))

    def test_reading(self):
        s = self.sheet
        self.assertEqual([s[name] for name in s], [DRAW, DRAW, ("sum", ((ONE, "x"), (LESS, "y")), NONE)])
        for name in ("x", "y", "z"):
            self.assertIs(name in s, True)
        for odd in BAD_NAMES + ["w", "xx", "yx", "seen", "draw", s, Sheet()]:
            self.assertIs(odd in s, False)
            self.assertIs(odd not in s, True)
            with self.assertRaises(errors.BadName) as caught:
                s[odd]
            self.assertIs(caught.exception.given, odd)
        self.assertEqual(list(s), ["x", "y", "z"])
        self.assertEqual(s.version, 3)

    def test_iterating(self):
        found = iter(self.sheet)
        self.assertEqual(next(found), "x")
        self.sheet.put("a", DRAW)
        self.sheet.put("xx", DRAW)
        self.sheet.drop("z")
        self.assertEqual(list(found), ["y", "z"])
        self.assertEqual(list(self.sheet), ["a", "x", "xx", "y"])
        for name in self.sheet:
            self.sheet.put(name + "b", DRAW)
        self.assertEqual(self.sheet.names, ("a", "ab", "x", "xb", "xx", "xxb", "y", "yb"))
        found = iter(self.sheet)
        self.sheet.undo()
        self.assertEqual(len(list(found)), 8)

    def test_equal_sheets(self):
        other = Sheet()
        for name, content in (("z", None), ("y", DRAW), ("x", DRAW), ("z", self.sheet["z"])):
            if content is not None:
                other.put(name, content)
        self.assertTrue(self.sheet == other and not self.sheet != other)
        other.mean("x")
        other.undo()
        self.assertTrue(self.sheet != other and not self.sheet == other)
        other.redo()
        other.see(SAY)
        self.assertFalse(self.sheet == other)
        self.sheet.see(("not", ("<=", "y", "x")))
        self.assertFalse(self.sheet == other)
        self.sheet.forget(0)
        self.sheet.see(SAY)
        self.assertTrue(self.sheet == other)
        self.sheet.see(("<=", "x", "y"))
        other.forget(0)
        other.see(("<=", "x", "y"))
        other.see(SAY)
        self.assertTrue(self.sheet != other)
        kept = KeptSheet(other, SAY, HALF)
        self.assertTrue(kept == other and other == kept and not kept != other)
        for odd in ODD_VALUES + [other.names, dict(other.at(other.version)[0])]:
            self.assertIs(other == odd, False)
            self.assertIs(other != odd, True)
            self.assertIs(odd == other, False)

    def test_names(self):
        s = Sheet()
        for name in ("a", "z", "abcdefghijkl", "zzzzzzzzzzzz", "see", "seenn", "draw", "sum", "greatest", "ab", "abc", "aba", "not", "and"):
            self.assertEqual(s.put(name, DRAW), s.version)
            self.assertEqual(s.put(name=name, content=DRAW), s.version)
        self.assertEqual(s.names, tuple(sorted(s.names)))
        self.assertEqual(len(s), 14)
        for odd in BAD_NAMES:
            self.refused(self.sheet, "put", (odd, DRAW), f"BadName({odd!r})")
            self.refused(self.sheet, "put", (odd, None), f"BadName({odd!r})")
            self.refused(self.sheet, "drop", (odd,), f"BadName({odd!r})")
            self.refused(self.sheet, "mean", (odd,), f"BadName({odd!r})")
            self.refused(self.sheet, "spread", (odd,), f"BadName({odd!r})")


class TestEdits(SheetCase):

    def test_each_content(self):
        s = self.sheet
        for content in (("sum", (), NONE), ("sum", ((HALF, "x"),), (-7, 3)), ("sum", ((NONE, "x"), (ONE, "y"), (TWO, "z")), NONE), ("greatest", "x", "y"), ("least", "z", "z"),
                        ("choice", "x", "<", "y", "z", "x"), ("choice", "x", "<=", "x", "x", "x"), ("choice", "x", "=", "y", "y", "y"),
                        ("draw", lump(HALF)), ("draw", COIN), ("draw", tent(NONE, ONE, TWO)), ("draw", shared([(0, 1), (9, 1)], [(0, 1, poly(0, 0, 1)), (1, 2, poly(1)), (2, 3, poly(3))]))):
            version = s.version
            self.assertEqual(s.put("w", content), version + 1)
            self.assertEqual(s["w"], content)
            self.assertEqual(s.names, ("w", "x", "y", "z"))

    def test_spoilt_contents(self):
        bad = [value for value in ODD_VALUES] + [
            [], (), ["draw", UNIT], ("draw",), ("draw", UNIT, UNIT), ("DRAW", UNIT), ("sum",), ("sum", ()), ("sum", (), 0), ("sum", (), "0"), ("sum", [], NONE), ("sum", (), NONE, NONE),
            ("sum", ((ONE, "x"),)), ("sum", (ONE, "x"), NONE), ("sum", ((ONE, "x", "y"),), NONE), ("sum", (["x", ONE],), NONE), ("sum", (("x", ONE),), NONE), ("sum", ((1, "x"),), NONE),
            ("sum", (((2, 4), "x"),), NONE), ("sum", ((ONE, "x"), (ONE, "x")), NONE), ("sum", ((ONE, "y"), (ONE, "x")), NONE), ("sum", ((ONE, "X"),), NONE), ("sum", ((ONE, 0),), NONE),
            ("sum", ((ONE, "seen"),), NONE), ("sum", ((ONE, "x"),), (1, 0)), ("sum", ((ONE, "x"),), (True, 1)), ("sum", {"x": ONE}, NONE), ("sum", "x", NONE), ("sum", ((ONE, ["x"]),), NONE),
            ("greatest", "x"), ("greatest", "x", "y", "z"), ("greatest", "x", 1), ("greatest", 0, 1), ("least", "x", "Y"), ("least", ("x",), "y"), ("least", "x", ""), ["least", "x", "y"],
            ("choice", "x", "<", "y", "x"), ("choice", "x", ">", "y", "x", "y"), ("choice", "x", "y", "<", "x", "y"), ("choice", "x", "<", "y", "x", "seen"), ("choice", 0, "<", "y", "x", "y"),
            ("choice", "x", "<", "y", "x", "y", "z"), ("choice", "x", ("<",), "y", "x", "y"), ("choice", "x", "<", "y", None, "y"), ("choice", "x", "<", ["y"], "x", "y"), ("choice", "x", "<", "y", "x", {}),
            ("shift", "x", ONE), ("shift", 0, ONE), ("<", "x", "y"), ("and", SAY, SAY), "draw", "sum", (["draw"], UNIT), (("draw",), UNIT), Sheet(), self.sheet]
        for content in bad:
            self.refused(self.sheet, "put", ("w", content), "BadProgram('form')")
            self.refused(self.sheet, "put", ("x", content), "BadProgram('form')")

    def test_bad_draws(self):
        one = ((NONE, ONE, (ONE,)),)
        for spread in ODD_VALUES + [((), ()), (((NONE, HALF),), ()), (((ONE, HALF), (NONE, HALF)), ()), ((), ((NONE, ONE, (ONE, NONE)),)), [(), one], ((), list(one)),
                                    ((), ((NONE, ONE, ((-1, 1), (4, 1))),)), (((NONE, HALF),), one), ((), one + one), self.sheet]:
            error = spread_error(spread)
            self.assertIsNotNone(error)
            for name in ("w", "x"):
                with self.assertRaises(errors.BadSpread) as caught:
                    self.sheet.put(name, ("draw", spread))
                if error[0] != "below":
                    self.assertEqual(caught.exception.error, error)
        for spread, word in ((shared([(k, 1) for k in range(3)], []), "lumps"), (shared([], [(2 * k, 2 * k + 1, poly(1)) for k in range(4)]), "pieces"),
                             (shared([], [(0, 1, poly(0, 0, 0, 1))]), "degree"), (lump((10 ** 6, 1)), "great")):
            self.assertIsNone(spread_error(spread))
            self.assertEqual(world_error((spread,)), ("draw", 0, word))
            self.refused(self.sheet, "put", ("w", ("draw", spread)), f"BadWorld(('draw', 0, '{word}'))")

    def test_names_that_are_not_set(self):
        for content, name in ((sum_of("v"), "v"), (sum_of("v", "x"), "v"), (sum_of("u", "v"), "u"), (sum_of("x", "zz"), "zz"), (("greatest", "v", "u"), "v"), (("least", "x", "u"), "u"),
                              (("choice", "d", "<", "c", "b", "a"), "d"), (("choice", "x", "<", "c", "b", "a"), "c"), (("choice", "x", "<", "y", "b", "a"), "b"),
                              (("choice", "x", "<", "y", "z", "a"), "a"), (("greatest", "w", "w"), "w"), (sum_of("w", "x"), "w"), (("least", "xx", "y"), "xx")):
            self.refused(self.sheet, "put", ("w", content), f"BadName({name!r})")
        self.refused(self.sheet, "put", ("x", sum_of("q", "x")), "BadName('q')")
        self.refused(self.sheet, "put", ("x", ("greatest", "z", "q")), "BadName('q')")

    def test_rings(self):
        s = self.sheet
        s.put("a", sum_of("z"))
        s.put("b", ("choice", "y", "<", "y", "y", "a"))
        for name, content in (("x", sum_of("x")), ("x", ("greatest", "y", "x")), ("x", sum_of("z")), ("x", ("choice", "y", "<", "y", "y", "b")), ("y", ("least", "a", "a")), ("z", sum_of("b")),
                              ("z", ("sum", ((NONE, "z"),), NONE)), ("a", sum_of("a", "x")), ("a", sum_of("b", "x")), ("b", ("least", "b", "b"))):
            self.refused(s, "put", (name, content), f"Rings({name!r})")
        # What is no ring: a draw, what the name hung on before, another name that uses the same.
        self.assertEqual(s.put("z", sum_of("x", "y")), 6)
        self.assertEqual(s.put("b", sum_of("a", "x", "z")), 7)
        self.assertEqual(s.put("z", DRAW), 8)
        self.assertEqual(s.put("x", sum_of("z")), 9)
        self.refused(s, "put", ("z", sum_of("x")), "Rings('z')")

    def test_drop(self):
        s = self.sheet
        for name in ("w", "xx", "", "seen", None, 0):
            self.refused(s, "drop", (name,), f"BadName({name!r})")
        self.refused(s, "drop", ("x",), "InUse('z')")
        s.put("c", ("least", "x", "y"))
        s.put("zz", sum_of("z"))
        self.refused(s, "drop", ("x",), "InUse('c')")
        self.refused(s, "drop", ("z",), "InUse('zz')")
        s.see(("<", "c", "y"))
        s.see(("or", ("<", "zz", "c"), ("<", "zz", "zz")))
        self.refused(s, "drop", ("c",), "InUse(0)")
        self.refused(s, "drop", ("zz",), "InUse(1)")
        self.refused(s, "drop", ("y",), "InUse('c')")
        self.assertEqual(s.forget(0), 8)
        self.refused(s, "drop", ("c",), "InUse(0)")
        self.assertEqual(s.forget(place=0), 9)
        self.assertEqual((s.drop("c"), s.drop(name="zz"), s.drop("z"), s.drop("x"), s.names), (10, 11, 12, 13, ("y",)))
        # A name may be put to what does not use it any more.
        s.put("p", sum_of("y"))
        s.put("p", DRAW)
        self.assertEqual(s.drop("y"), 16)

    def test_see_and_forget(self):
        s = self.sheet
        for odd in ODD_VALUES + [("<", "x"), ("<", "x", 0), ("<", 0, 1), ("<", "x", "Y"), ("<", "x", "seen"), (">", "x", "y"), ("and", SAY), ("not", SAY, SAY), ("not",), [SAY], list(SAY), ("or", SAY, None),
                                 ("and", SAY, SAY, SAY), ("not", "x"), "< x y", s, ("and", ("and", SAY, SAY), ("and", SAY, ("or", SAY, SAY))), deep_not(40)]:
            self.refused(s, "see", (odd,), "BadSaying('form')")
            self.refused(s, "chance", (odd,), "BadSaying('form')")
        for remark, name in ((("<", "u", "v"), "u"), (("<", "x", "v"), "v"), (("and", ("<", "x", "y"), ("or", ("=", "x", "q"), ("<", "p", "x"))), "q"), (("not", ("=", "w", "x")), "w"),
                             (("=", "xx", "x"), "xx")):
            self.refused(s, "see", (remark,), f"BadName({name!r})")
            self.refused(s, "chance", (remark,), f"BadName({name!r})")
        for remark in (("=", "x", "y"), ("<", "x", "x"), ("and", SAY, ("not", SAY))):
            self.refused(s, "see", (remark,), "NoChance()")
            self.assertEqual(s.chance(remark), NONE)
        self.assertEqual((s.see(SAY), s.see(deep_not(39)), s.seen), (4, 5, (SAY, deep_not(39))))
        self.refused(s, "see", (("<", "y", "x"),), "NoChance()")
        self.assertEqual(s.see(remark=SAY), 6)
        for odd in ODD_VALUES + [3, -1, 10 ** 39, True, False, "0", (0,), None, 0.0, 1.5]:
            if odd not in (0, 1, 2) or type(odd) is not int:
                self.refused(s, "forget", (odd,), "Unfit()")
        self.assertEqual((s.forget(1), s.seen), (7, (SAY, SAY)))
        self.assertEqual((s.forget(1), s.forget(0), s.seen), (8, 9, ()))
        self.refused(s, "forget", (0,), "Unfit()")

    def test_what_was_seen_may_come_to_nothing(self):
        s = self.sheet
        s.see(SAY)
        self.assertEqual(s.put("y", ("draw", lump(LESS))), 5)
        for method, args in (("mean", ("x",)), ("chance", (SAY,)), ("spread", ("z",)), ("see", (SAY,)), ("mean", ("y",)), ("chance", (("=", "x", "x"),))):
            self.refused(s, method, args, "NoChance()")
        self.assertEqual(s.made, 1)
        self.assertEqual(s.forget(0), 6)
        self.assertEqual(s.mean("z"), (3, 2))

    def test_an_edit_that_changes_nothing_is_an_edit(self):
        s = self.sheet
        self.assertEqual((s.put("x", DRAW), s.put("x", ("draw", even(NONE, ONE))), s.batch(()), s.version), (4, 5, 6, 6))
        self.assertEqual(s.at(3), s.at(6))
        self.assertEqual((s.undo(), s.undo(), s.undo(), s.version), (5, 4, 3, 3))

    def test_batches(self):
        self.assertEqual(BATCH, 12)
        s = self.sheet
        self.assertEqual(s.batch((("put", ("a", DRAW)), ("put", ("b", sum_of("a", "x"))), ("see", (("<", "a", "b"),)), ("drop", ("z",)), ("forget", (0,)))), 4)
        self.assertEqual((s.names, s.seen), (("a", "b", "x", "y"), ()))
        self.assertEqual(s.undo(), 3)
        self.assertEqual((s.names, s.redo(), s.names), (("x", "y", "z"), 4, ("a", "b", "x", "y")))
        self.assertEqual(s.batch(edits=(("put", ("a", DRAW)),) * 12), 5)
        self.refused(s, "batch", ((("put", ("a", DRAW)),) * 13,), "BadBatch()")
        good = ("put", ("a", DRAW))
        bad = [odd for odd in ODD_VALUES if odd != ()] + [
            [good], (good, ["put", ("a", DRAW)]), (("put", ["a", DRAW]),), (("put", ("a",)),), (("put", ("a", DRAW, DRAW)),), (("drop", ()),), (("drop", ("a", "a")),), (("drop", "a"),), (("see", ()),),
            (("see", SAY),), (("forget", ()),), (("forget", (0, 0)),), (("forget", 0),), (("batch", ((),)),), (("undo", ()),), (("chance", (SAY,)),), (("Put", ("a", DRAW)),), (good + (None,),),
            (good, None), (None, good), (("put",),), ((("put", "a"), ("a", DRAW)),), ((["put"], ("a", DRAW)),), ((None, (0,)),), ((1, ("a",)),), good, "put", {0: good}, s,
            (("put", {"name": "a", "content": DRAW}),), (("mean", ("x",)),)]
        for odd in bad:
            self.refused(s, "batch", (odd,), "BadBatch()")
        for edits, place in (((("put", ("A", DRAW)),), 0), ((good, ("drop", ("q",))), 1), ((good, good, ("see", (("<", "x", "x"),))), 2), ((good, ("put", ("c", None))), 1), ((("drop", ("x",)), good), 0),
                             ((("drop", ("b",)), ("drop", ("x",)), ("drop", ("x",)), good), 2), ((("see", (SAY,)), ("forget", (0,)), ("forget", (0,))), 2),
                             ((("see", (SAY,)), ("see", (("<", "y", "x"),))), 1), ((("put", ("b", sum_of("b"))),), 0), (((good,) * 11 + (("put", ("a", ("draw", None))),)), 11)):
            self.refused(s, "batch", (edits,), f"Rejected({place})")
        # Each edit meets what the ones ahead of it left.
        self.assertEqual(s.batch((("drop", ("b",)), ("drop", ("a",)), ("put", ("a", sum_of("x"))), ("put", ("x", lumped())), ("see", (("=", "a", "x"),)))), 6)
        self.assertEqual((s.names, s.seen, s.chance(("=", "x", "a"))), (("a", "x", "y"), (("=", "a", "x"),), ONE))

    def test_a_batch_that_is_rejected(self):
        s = self.sheet
        s.mean("x")
        before = state_of(s)
        s.put("x", FLIP)
        s.undo()
        self.refused(s, "batch", ((("put", ("w", DRAW)), ("see", (("<", "w", "x"),)), ("see", (("<", "x", "w"),))),), "Rejected(2)")
        # What was asked on the way was told, and is kept: w below x, and then the contrary, once.
        self.assertEqual(s.made, 3)
        self.assertEqual(state_of(s), before)
        self.assertEqual(s.redo(), 4)
        self.assertEqual(s["x"], FLIP)

    def test_as_many_edits_as_there_may_be(self):
        self.assertEqual(MAX_EDITS, 40)
        s = self.sheet
        while s.version < 40:
            s.put("x", DRAW)
        for method, args, error in (("put", ("x", DRAW), "TooManyEdits()"), ("drop", ("z",), "TooManyEdits()"), ("see", (SAY,), "TooManyEdits()"), ("batch", ((),), "TooManyEdits()"),
                                    ("put", ("X", DRAW), "BadName('X')"), ("put", ("x", None), "BadProgram('form')"), ("put", ("x", sum_of("x")), "Rings('x')"), ("drop", ("x",), "InUse('z')"),
                                    ("see", (("<", "x", "x"),), "NoChance()"), ("see", (None,), "BadSaying('form')"), ("forget", (0,), "Unfit()"), ("batch", (None,), "BadBatch()"),
                                    ("batch", ((("drop", ("x",)),),), "Rejected(0)"), ("put", ("x", ("draw", 0)), "BadSpread('form')"),
                                    ("put", ("x", ("draw", lump((10 ** 6, 1)))), "BadWorld(('draw', 0, 'great'))")):
            self.refused(s, method, args, error)
        self.assertEqual((s.undo(), s.see(SAY)), (39, 40))
        self.refused(s, "forget", (0,), "TooManyEdits()")
        self.assertEqual([s.undo() for _ in range(40)], list(range(39, -1, -1)))
        self.refused(s, "undo", (), "NothingToUndo()")
        self.assertEqual([s.redo() for _ in range(40)], list(range(1, 41)))
        self.refused(s, "redo", (), "NothingToRedo()")
        self.assertEqual(s.seen, (SAY,))


def deep_not(many):
    """A remark behind so many "not"; they make it many + 1 deep."""
    remark = SAY if many % 2 == 0 else ("<=", "y", "x")
    for _ in range(many):
        remark = ("not", remark)
    return remark


def lumped():
    """A content with a lump."""
    return "draw", lump(HALF)


class TestQuestions(SheetCase):

    def test_answers(self):
        s = self.sheet
        self.assertEqual((s.mean("x"), s.mean(name="z"), s.spread("x"), s.spread(name="z"), s.chance(SAY), s.chance(remark=("not", SAY))),
                         (HALF, NONE, UNIT, tent(LESS, NONE, ONE), HALF, HALF))
        s.see(SAY)
        self.assertEqual((s.mean("x"), s.spread("y"), s.chance(SAY), s.chance(("<", "y", "x"))), ((1, 3), ((), ((NONE, ONE, ((0, 1), (2, 1))),)), ONE, NONE))
        # Names put in an order that is not theirs.
        t = Sheet()
        t.put("m", DRAW)
        t.put("c", ("choice", "m", "<", "m", "m", "m"))
        t.put("b", ("draw", even(ONE, TWO)))
        t.put("a", ("sum", ((HALF, "b"), (LESS, "c"), (TWO, "m")), ONE))
        t.put("c", ("least", "b", "m"))
        self.assertEqual((t.mean("a"), t.mean("c"), t.chance(("<", "a", "b")), t.chance(("<", "b", "a"))), ((9, 4), HALF, NONE, ONE))

    def test_without_draws(self):
        s = Sheet()
        s.put("half", ("sum", (), HALF))
        s.put("twice", ("sum", ((TWO, "half"),), NONE))
        s.put("most", ("greatest", "half", "twice"))
        self.assertEqual((s.mean("most"), s.spread("most"), s.chance(("=", "most", "twice")), s.chance(("<", "twice", "half"))), (ONE, lump(ONE), ONE, NONE))
        s.see(("<", "half", "most"))
        self.assertEqual((s.mean("twice"), s.made), (ONE, 6))
        s.put("half", ("sum", (), (-1, 2)))
        self.refused(s, "mean", ("half",), "NoChance()")

    def test_too_many(self):
        self.assertEqual((MAX_DRAWS, MAX_BOXES, MAX_LINES, MAX_CHOICES, MAX_COMPARED, MAX_MATTER, MAX_MATTER_THREE), (3, 12, 12, 4, 4, 6, 4))
        s = Sheet()
        for name in "abcd":
            s.put(name, DRAW)
        s.put("three", sum_of("a", "b", "c"))
        s.put("four", sum_of("d", "three"))
        self.assertEqual(s.mean("three"), (3, 2))
        for method in ("mean", "spread"):
            self.refused(s, method, ("four",), "TooMany(3)")
        self.refused(s, "chance", (("<", "three", "d"),), "TooMany(3)")
        self.refused(s, "see", (("<", "three", "d"),), "TooMany(3)")
        s.see(("<", "a", "b"))
        self.assertEqual(s.mean("c"), HALF)
        self.refused(s, "mean", ("x",), "BadName('x')")
        s.see(("<", "b", "c"))
        self.refused(s, "mean", ("d",), "TooMany(3)")
        self.assertEqual(s.mean("a"), (1, 4))

    def test_too_many_boxes(self):
        four, three = ("draw", parts(2, 2)), ("draw", parts(1, 2))
        s = Sheet()
        s.put("a", four)
        s.put("b", three)
        s.put("c", ("draw", parts(2, 2)))
        s.put("ab", sum_of("a", "b"))
        s.put("ac", sum_of("a", "c"))
        self.assertIsNone(spread_error(s.spread("ab")))
        for method in ("mean", "spread"):
            self.refused(s, method, ("ac",), "TooMany(12)")
        self.refused(s, "chance", (("<", "a", "c"),), "TooMany(12)")
        s.see(("<", "a", "b"))
        self.refused(s, "mean", ("c",), "TooMany(12)")
        # Draws ahead of boxes, boxes ahead of lines, choices, and what is compared.
        s.forget(0)
        s.put("d", DRAW)
        s.put("e", ("choice", "a", "<", "c", "b", "d"))
        self.refused(s, "mean", ("e",), "TooMany(3)")
        for k in range(13):
            s.put("f" + "abcdefghijklm"[k], ("greatest", "ac", "ac" if k == 0 else "f" + "abcdefghijklm"[k - 1]))
        self.refused(s, "mean", ("fm",), "TooMany(12)")
        s.put("c", DRAW)
        self.refused(s, "mean", ("fm",), "TooMany(12)")
        self.refused(s, "mean", ("fe",), "TooMany(4)")

    def test_too_many_lines_and_choices(self):
        s = Sheet()
        s.put("x", DRAW)
        ahead = "x"
        for letter in "abcdefghijklm":
            s.put("l" + letter, sum_of(ahead))
            ahead = "l" + letter
        self.assertEqual(s.mean("ll"), HALF)
        for method in ("mean", "spread"):
            self.refused(s, method, ("lm",), "TooMany(12)")
        self.refused(s, "chance", (("<", "lm", "x"),), "TooMany(12)")
        self.assertEqual(s.chance(("=", "ll", "x")), ONE)
        s = Sheet()
        s.put("x", DRAW)
        s.put("y", DRAW)
        ahead = "x"
        for letter in "abcde":
            s.put("g" + letter, ("greatest", ahead, "y"))
            ahead = "g" + letter
        self.assertEqual(s.mean("gd"), (2, 3))
        for method in ("mean", "spread"):
            self.refused(s, method, ("ge",), "TooMany(4)")
        self.assertEqual((s.chance(("<", "x", "gd")), s.chance(("and", ("<", "x", "gd"), ("<=", "y", "gd")))), (HALF, HALF))
        three = ("and", ("<", "x", "gd"), ("and", SAY, SAY))
        self.refused(s, "chance", (three,), "TooMany(6)")
        self.assertEqual(s.see(SAY), 8)
        self.assertEqual(s.chance(("<", "x", "gd")), ONE)
        self.refused(s, "chance", (("and", ("<", "x", "gd"), SAY),), "TooMany(6)")
        self.refused(s, "chance", (("<", "x", "ge"),), "TooMany(4)")
        s.see(SAY)
        self.assertEqual(s.mean("gd"), (2, 3))
        s.see(SAY)
        self.refused(s, "mean", ("gd",), "TooMany(6)")
        self.refused(s, "spread", ("gd",), "TooMany(6)")
        self.assertEqual(s.mean("gc"), (2, 3))

    def test_too_much_seen(self):
        s = self.sheet
        s.see(("and", SAY, SAY))
        s.see(("or", SAY, SAY))
        self.assertEqual((s.mean("x"), s.chance(("and", SAY, SAY)), s.chance(SAY)), ((1, 3), ONE, ONE))
        self.refused(s, "chance", (("and", SAY, ("and", SAY, SAY)),), "TooMany(6)")
        self.assertEqual(s.see(SAY), 6)
        for method, args in (("mean", ("x",)), ("spread", ("x",)), ("chance", (SAY,)), ("see", (SAY,)), ("chance", (("and", ("and", SAY, SAY), ("and", SAY, SAY)),))):
            self.refused(s, method, args, "TooMany(4)")
        s.forget(0)
        self.assertEqual(s.mean("x"), (1, 3))
        # With three draws there may be four in all.
        s.put("w", DRAW)
        s.put("all", sum_of("w", "x", "y"))
        s.put("most", ("greatest", "all", "w"))
        self.assertEqual(s.chance(("<", "w", "x")), (1, 3))
        self.refused(s, "chance", (("and", ("<", "w", "x"), SAY),), "TooMany(4)")
        self.refused(s, "chance", (("<", "most", "x"),), "TooMany(4)")
        self.assertEqual(s.mean("most"), s.mean("all"))
        s.put("most", ("greatest", "x", "y"))
        s.put("mosts", ("greatest", "most", "y"))
        self.assertEqual(s.chance(("<", "mosts", "x")), NONE)
        self.refused(s, "chance", (("<=", "mosts", "all"),), "TooMany(4)")

    def test_two_limits_at_once(self):
        """Of two limits that are passed the one that is told first counts."""
        s = Sheet()
        for name in "abc":
            s.put(name, DRAW)
        four = ("draw", parts(2, 2))
        s.put("d", DRAW)
        s.put("e", four)
        s.put("f", four)
        s.put("many", ("choice", "a", "<", "b", "e", "f"))
        self.refused(s, "mean", ("many",), "TooMany(3)")
        s.put("g", ("greatest", "a", "b"))
        for k, letter in enumerate("hijkl"):
            s.put(letter, ("greatest", "a", "ghijkl"[k]))
        self.refused(s, "mean", ("l",), "TooMany(4)")
        self.refused(s, "chance", (("and", ("<", "k", "a"), ("and", ("<", "a", "b"), ("<", "a", "b"))),), "TooMany(4)")
        for letter in "pqrs":
            s.put(letter, sum_of("a", "l"))
        s.put("t", sum_of("p", "q", "r", "s"))
        s.put("u", sum_of("t"))
        s.put("v", sum_of("u"))
        self.refused(s, "mean", ("v",), "TooMany(12)")
        s.see(("and", ("<", "a", "b"), ("<=", "a", "b")))
        s.see(("and", ("<", "a", "b"), ("<=", "a", "b")))
        s.see(("<", "a", "b"))
        self.refused(s, "mean", ("l",), "TooMany(4)")
        self.refused(s, "mean", ("c",), "TooMany(4)")
        s.put("b", ("draw", lump(LESS)))
        self.refused(s, "mean", ("c",), "TooMany(4)")
        s.forget(0)
        self.refused(s, "mean", ("c",), "NoChance()")
        self.refused(s, "chance", (("and", ("and", ("<", "a", "b"), ("<", "a", "b")), ("and", ("<", "a", "b"), ("<", "a", "b"))),), "TooMany(6)")

    def test_made(self):
        s = self.sheet
        s.put("w", FLIP)
        for _ in range(3):
            self.assertEqual((s.mean("x"), s.made), (HALF, 1))
        s.put("w", DRAW)
        s.put("y", FLIP)
        s.drop("w")
        self.assertEqual((s.mean("x"), s.made), (HALF, 1))
        self.assertEqual((s.mean("z"), s.made), (NONE, 2))
        s.put("y", lumped())
        self.assertEqual((s.mean("z"), s.made, s.spread("z"), s.made), (NONE, 3, even((-1, 2), HALF), 4))
        s.undo()
        self.assertEqual((s.mean("z"), s.made), (NONE, 4))
        s.redo()
        self.assertEqual((s.mean("z"), s.spread("z"), s.made), (NONE, even((-1, 2), HALF), 4))
        # What was seen belongs to the question, even where it tells nothing of it.
        s.see(("<=", "y", "y"))
        self.assertEqual((s.made, s.mean("x"), s.made), (5, HALF, 6))
        s.forget(0)
        self.assertEqual((s.mean("x"), s.made), (HALF, 6))
        s.see(("<=", "y", "y"))
        self.assertEqual((s.mean("x"), s.made), (HALF, 6))
        s.put("y", DRAW)
        self.assertEqual((s.mean("x"), s.made), (HALF, 7))
        # Other words of the same are other questions.
        s.forget(0)
        self.assertEqual((s.chance(SAY), s.chance(("not", ("<=", "y", "x"))), s.chance(("not", ("not", SAY))), s.made), (HALF, HALF, HALF, 10))
        self.assertEqual((s.chance(("not", ("<=", "y", "x"))), s.made), (HALF, 10))
        # A name put to something else and back again.
        s.put("z", sum_of("x"))
        self.assertEqual((s.mean("z"), s.made), (HALF, 11))
        s.put("z", ("sum", ((ONE, "x"), (LESS, "y")), NONE))
        self.assertEqual((s.mean("z"), s.made), (NONE, 12))
        s.put("z", sum_of("x"))
        self.assertEqual((s.mean("z"), s.made), (HALF, 12))

    def test_askings_that_raise_keep_nothing(self):
        s = self.sheet
        for method, args in (("mean", ("w",)), ("mean", (None,)), ("chance", (None,)), ("chance", (("<", "x", "w"),)), ("spread", ("seen",)),
                             ("chance", (("and", ("and", SAY, SAY), ("and", SAY, ("and", SAY, SAY))),))):
            with self.assertRaises(UnsureError):
                getattr(s, method)(*args)
        self.assertEqual(s.made, 0)
        # What see asks counts, even if it then raises an error.
        with self.assertRaises(NoChance):
            s.see(("<", "x", "x"))
        self.assertEqual((s.made, s.chance(("<", "x", "x")), s.made), (1, NONE, 1))
        s.see(SAY)
        self.assertEqual(s.made, 2)
        s.undo()
        self.assertEqual((s.chance(SAY), s.made), (HALF, 2))
        while s.version < 40:
            s.put("x", DRAW)
        with self.assertRaises(errors.TooManyEdits):
            s.see(("<=", "x", "y"))
        self.assertEqual(s.made, 3)

    def test_time(self):
        s = Sheet()
        for name, most in (("a", 2), ("b", 2), ("c", 3)):
            s.put(name, ("draw", shared([], [(k, k + 1, poly(1, Fraction(k, 3), Fraction(1, 7))) for k in range(most)])))
        s.put("d", ("sum", ((HALF, "a"), (LESS, "b"), (TWO, "c")), HALF))
        s.put("e", ("choice", "a", "<", "d", "b", "c"))
        s.put("f", ("greatest", "e", "d"))
        start = time.time()
        s.see(("<", "a", "c"))
        s.see(("not", ("<", "f", "b")))
        self.assertIsNone(spread_error(s.spread("f")))
        s.mean("e")
        self.assertLess(time.time() - start, 20)
        start = time.time()
        for _ in range(200):
            s.spread("f")
            s.copy()
        self.assertLess(time.time() - start, 5)


def parts(lumps, pieces):
    """A spread with so many lumps and pieces."""
    return shared([(k, 1) for k in range(lumps)], [(10 + 2 * k, 11 + 2 * k, poly(1)) for k in range(pieces)])


class TestUndo(SheetCase):

    def test_there_and_back(self):
        s = self.sheet
        s.see(SAY)
        s.put("w", sum_of("z"))
        states = [s.at(k) for k in range(6)]
        self.assertEqual(states[0], ((), ()))
        self.assertEqual(states[2], ((("x", DRAW), ("y", DRAW)), ()))
        self.assertEqual(states[5], (tuple((name, s[name]) for name in s.names), (SAY,)))
        for version in (4, 3, 2, 1, 0):
            self.assertEqual((s.undo(), s.version), (version, version))
            self.assertEqual(s.at(version), states[version])
            self.assertEqual((s.names, s.seen), (tuple(name for name, _ in states[version][0]), states[version][1]))
        self.refused(s, "undo", (), "NothingToUndo()")
        for version in (1, 2, 3, 4, 5):
            self.assertEqual((s.redo(), s.version), (version, version))
            self.assertEqual(s.at(version=version), states[version])
        self.refused(s, "redo", (), "NothingToRedo()")

    def test_an_edit_forgets_what_was_taken_back(self):
        s = self.sheet
        s.undo()
        s.undo()
        self.assertEqual(s.put("w", DRAW), 2)
        self.refused(s, "redo", (), "NothingToRedo()")
        self.assertEqual(s.at(2), ((("w", DRAW), ("x", DRAW)), ()))
        # An edit that is refused forgets nothing; neither does a question.
        s.undo()
        with self.assertRaises(UnsureError):
            s.put("w", None)
        s.mean("x")
        self.assertEqual((s.redo(), s.names), (2, ("w", "x")))

    def test_at(self):
        s = self.sheet
        s.undo()
        for odd in ODD_VALUES + [-1, 3, 10 ** 39, True, False, None, "0", 1.0, (1,), [0], s]:
            if type(odd) is int and 0 <= odd <= 2:
                continue
            with self.subTest(repr(odd)[:100]):
                with self.assertRaises(errors.NoVersion) as caught:
                    s.at(odd)
                self.assertIs(caught.exception.given, odd)
        found = s.at(2)
        self.assertIs(type(found), tuple)
        self.assertIs(type(found[0]), tuple)
        s.redo()
        self.assertEqual(s.at(2), found)
        s.put("x", FLIP)
        self.assertEqual(s.at(2), found)

    def test_copies(self):
        s = self.sheet
        s.see(SAY)
        s.mean("x")
        s.undo()
        s.undo()
        t = s.copy()
        self.assertIs(type(t), Sheet)
        self.assertEqual((t.names, t.seen, t.version, t.made, t.at(1)), (s.names, s.seen, s.version, s.made, s.at(1)))
        self.assertEqual((t.redo(), t.redo(), t.mean("x"), t.made), (3, 4, (1, 3), 2))
        self.assertEqual((s.version, s.names, s.seen, s.made), (2, ("x", "y"), (), 2))
        self.assertEqual((t.undo(), t.undo(), t.undo(), t.undo(), t.names), (3, 2, 1, 0, ()))
        self.assertEqual(s.names, ("x", "y"))
        # Each keeps its own answers from here on.
        self.assertEqual((s.mean("y"), s.made, t.made), (HALF, 3, 2))
        t.redo()
        t.redo()
        self.assertEqual((t.mean("y"), t.made, s.made), (HALF, 3, 3))
        self.assertEqual((t.spread("y"), t.made, s.made), (UNIT, 4, 3))
        s.put("w", DRAW)
        self.assertEqual((s.names, t.names), (("w", "x", "y"), ("x", "y")))
        self.assertEqual((t.redo(), t.version), (3, 3))
        self.refused(s, "redo", (), "NothingToRedo()")


class TestAttempt(SheetCase):

    def test_work_that_returns(self):
        s = self.sheet
        listed = []
        self.assertIs(s.attempt(lambda sheet: listed), listed)
        self.assertIs(s.attempt(work=lambda sheet: sheet), s)
        self.assertIsNone(s.attempt(lambda sheet: None))
        self.assertEqual(s.version, 3)
        self.assertEqual(s.attempt(lambda sheet: [sheet.put("w", DRAW), sheet.see(("<", "w", "x")), sheet.undo()]), [4, 5, 4])
        self.assertEqual((s.names, s.version, s.redo()), (("w", "x", "y", "z"), 4, 5))

    def test_work_that_raises(self):
        s = self.sheet
        s.put("w", DRAW)
        s.undo()
        before = state_of(s)

        def spoil(sheet):
            sheet.undo()
            sheet.undo()
            sheet.put("q", DRAW)
            sheet.mean("q")
            sheet.drop("nothing")

        with self.assertRaises(errors.BadName) as caught:
            s.attempt(spoil)
        self.assertEqual(caught.exception.given, "nothing")
        self.assertEqual((state_of(s), s.made), (before, 1))
        self.assertEqual((s.redo(), s.names), (4, ("w", "x", "y", "z")))
        s.put("q", DRAW)
        self.assertEqual((s.mean("q"), s.made), (HALF, 1))

    def test_errors_of_whatever_call(self):
        s = self.sheet
        before = state_of(s)
        for error in (UnsureError("made by work"), Unfit(), Changed(None), Rejected(place=0), TooMany(3), errors.NoPoint(())):
            def work(sheet):
                sheet.put("q", DRAW)
                raise error
            with self.assertRaises(type(error)) as caught:
                s.attempt(work)
            self.assertIs(caught.exception, error)
            self.assertEqual(state_of(s), before)

        def other_sheet(sheet):
            sheet.put("q", DRAW)
            Sheet().undo()

        with self.assertRaises(errors.NothingToUndo):
            s.attempt(other_sheet)
        self.assertEqual(state_of(s), before)

        def a_spread(sheet):
            sheet.put("q", DRAW)
            even(ONE, NONE)

        with self.assertRaises(Unfit):
            s.attempt(a_spread)
        self.assertEqual(state_of(s), before)

    def test_other_errors(self):
        s = self.sheet
        for error in (ValueError("other"), KeyError(0), ZeroDivisionError(), TypeError(), StopIteration(), RuntimeError()):
            version = s.version

            def work(sheet):
                sheet.put("q", DRAW)
                raise error
            with self.assertRaises(type(error)) as caught:
                s.attempt(work)
            self.assertIs(caught.exception, error)
            self.assertEqual((s.version, "q" in s), (version + 1, True))

    def test_attempts_within_attempts(self):
        s = self.sheet

        def inner(sheet):
            sheet.put("b", DRAW)
            sheet.mean("b")
            sheet.forget(7)

        def outer(sheet):
            sheet.put("a", DRAW)
            try:
                sheet.attempt(inner)
            except Unfit:
                pass
            sheet.put("c", DRAW)
            return sheet.names

        self.assertEqual(s.attempt(outer), ("a", "c", "x", "y", "z"))
        self.assertEqual((s.version, s.made), (5, 1))

        def whole(sheet):
            sheet.attempt(lambda other: other.put("d", DRAW))
            sheet.undo()
            sheet.undo()
            sheet.attempt(inner)

        with self.assertRaises(Unfit):
            s.attempt(whole)
        self.assertEqual((s.version, s.names), (5, ("a", "c", "x", "y", "z")))
        self.refused(s, "redo", (), "NothingToRedo()")


class TestKeptSheet(SheetCase):

    def test_errors_of_making_it(self):
        s = self.sheet
        for odd in ODD_VALUES + [Sheet, "sheet", s.names]:
            for remark, least in ((SAY, HALF), (None, None), (None, HALF)):
                self.made_not(odd, remark, least, "Unfit()")
        for odd in ODD_VALUES + [0, 1, (2, 4), (1, 0), 0.5, [1, 2], None, "1/2"]:
            self.made_not(s, SAY, odd, "Unfit()")
            self.made_not(s, None, odd, "Unfit()")
        self.made_not(s, None, HALF, "BadSaying('form')")
        self.made_not(s, ("<", "x", "X"), HALF, "BadSaying('form')")
        self.made_not(s, ("<", "x", "w"), HALF, "BadName('w')")
        self.made_not(s, SAY, (2, 3), "Changed((1, 2))")
        self.made_not(s, ("<", "x", "x"), (1, 10 ** 39), "Changed((0, 1))")
        self.made_not(s, SAY, (51, 100), "Changed((1, 2))")
        s.see(SAY)
        s.put("y", ("draw", lump(LESS)))
        self.made_not(s, SAY, NONE, "NoChance()")
        t = Sheet()
        for name in "abcd":
            t.put(name, DRAW)
        t.put("all", sum_of("a", "b", "c", "d"))
        self.made_not(t, ("<", "all", "a"), NONE, "TooMany(3)")
        self.assertEqual((t.made, s.made), (0, 1))

    def made_not(self, value, remark, least, error):
        """A kept sheet is not made, by place and by name."""
        with self.subTest(error=error, least=repr(least)[:80]):
            self.assertEqual(outcome(KeptSheet, value, remark, least), ("raised",) + told_error(error))
            self.assertEqual(outcome(KeptSheet, least=least, remark=remark, value=value), ("raised",) + told_error(error))

    def test_a_new_one(self):
        s = self.sheet
        s.see(("<", "x", "y"))
        s.mean("x")
        s.undo()
        k = KeptSheet(s, SAY, HALF)
        self.assertIs(type(k), KeptSheet)
        self.assertTrue(isinstance(k, Sheet))
        self.assertEqual((k.names, k.seen, k.version, k.made, k.at(0)), (s.names, s.seen, 0, 1, s.at(3)))
        self.refused(k, "undo", (), "NothingToUndo()")
        self.refused(k, "redo", (), "NothingToRedo()")
        # What the sheet has kept, it does not have.
        self.assertEqual((k.chance(SAY), k.made, k.mean("z"), k.made), (HALF, 1, NONE, 2))
        k.put("w", DRAW)
        s.put("v", DRAW)
        self.assertEqual((k.names, s.names), (("w", "x", "y", "z"), ("v", "x", "y", "z")))
        s.see(SAY)
        t = KeptSheet(value=s, remark=SAY, least=ONE)
        self.assertEqual((t.seen, t.version, t.made), ((SAY,), 0, 1))
        self.assertEqual(KeptSheet(t, SAY, NONE).made, 1)

    def test_edits_that_go_below(self):
        k = KeptSheet(self.sheet, SAY, HALF)
        self.refused(k, "put", ("x", ("draw", even(NONE, TWO))), "Changed((1, 4))")
        self.refused(k, "put", ("y", ("draw", lump((1, 3)))), "Changed((1, 3))")
        self.refused(k, "see", (("<", "y", "x"),), "Changed((0, 1))")
        self.refused(k, "batch", ((("put", ("q", DRAW)), ("put", ("y", ("draw", lump(LESS))))),), "Changed((0, 1))")
        self.assertEqual(k.put("y", ("draw", even(NONE, (3, 1)))), 1)
        self.assertEqual(k.see(SAY), 2)
        self.assertEqual(k.put("y", DRAW), 3)
        self.assertEqual(k.forget(0), 4)
        # Errors of the edit itself come first.
        self.refused(k, "put", ("x", sum_of("z")), "Rings('x')")
        self.refused(k, "drop", ("x",), "InUse('z')")
        self.refused(k, "see", (("<", "x", "x"),), "NoChance()")
        self.refused(k, "batch", ((("put", ("x", sum_of("z"))),),), "Rejected(0)")
        self.refused(k, "batch", (None,), "BadBatch()")
        self.refused(k, "forget", (0,), "Unfit()")

    def test_edits_behind_which_it_can_not_be_told(self):
        k = KeptSheet(self.sheet, SAY, HALF)
        k.drop("z")
        made = k.made
        self.refused(k, "drop", ("x",), "Changed(None)")
        self.assertEqual(k.made, made)
        self.assertEqual((k.put("v", DRAW), k.put("w", DRAW)), (2, 3))
        self.refused(k, "put", ("x", sum_of("v", "w")), "Changed((1, 6))")
        k.put("y", ("draw", lump((5, 1))))
        k.put("x", sum_of("v", "w"))
        k.put("u", DRAW)
        k.put("t", DRAW)
        self.refused(k, "put", ("x", sum_of("t", "u", "v", "w")), "Changed(None)")
        self.refused(k, "batch", ((("put", ("s", sum_of("t", "u"))), ("put", ("x", sum_of("s", "v", "w")))),), "Changed(None)")
        # What was seen may come to nothing.
        self.refused(k, "see", (("<", "t", "u"),), "Changed(None)")
        self.assertEqual(k.see(("<", "v", "w")), 8)
        self.refused(k, "put", ("w", ("draw", lump(LESS))), "Changed(None)")
        self.assertEqual(k.batch((("put", ("w", ("draw", lump(LESS)))), ("forget", (0,)))), 9)

    def test_a_batch_is_one_edit(self):
        k = KeptSheet(self.sheet, SAY, HALF)
        made = k.made
        # On the way the chance is below: only the end counts.
        self.assertEqual(k.batch((("put", ("y", ("draw", lump(LESS)))), ("put", ("x", ("draw", lump((-2, 1))))))), 1)
        self.assertEqual((k.made, k.chance(SAY), k.made), (made + 1, ONE, made + 1))
        self.assertEqual((k.undo(), k.redo(), k.version), (0, 1, 1))

    def test_as_many_edits_as_there_may_be(self):
        k = KeptSheet(self.sheet, SAY, HALF)
        while k.version < 40:
            k.put("z", sum_of("x"))
        made = k.made
        self.refused(k, "put", ("z", sum_of("y")), "TooManyEdits()")
        self.refused(k, "put", ("x", ("draw", even(NONE, TWO))), "Changed((1, 4))")
        self.assertEqual(k.made, made + 1)
        self.refused(k, "put", ("y", ("draw", even(NONE, TWO))), "TooManyEdits()")
        self.assertEqual(k.made, made + 2)
        self.refused(k, "put", ("x", None), "BadProgram('form')")

    def test_undo_and_redo(self):
        k = KeptSheet(self.sheet, SAY, HALF)
        k.put("y", ("draw", even(NONE, TWO)))
        k.put("x", ("draw", even((-1, 1), ONE)))
        made = k.made
        self.assertEqual((k.undo(), k.undo(), k.redo(), k.redo(), k.made), (1, 0, 1, 2, made))
        with self.assertRaises(Changed):
            k.attempt(lambda sheet: [sheet.put("a", DRAW), sheet.put("y", ("draw", lump((-9, 1))))])
        self.assertEqual((k.version, "a" in k), (2, False))

    def test_copies(self):
        k = KeptSheet(self.sheet, SAY, (1, 3))
        k.put("y", ("draw", even(NONE, TWO)))
        k.mean("z")
        k.undo()
        t = k.copy()
        self.assertIs(type(t), KeptSheet)
        self.assertEqual((t.names, t.seen, t.version, t.made, t == k), (k.names, k.seen, k.version, k.made, True))
        self.assertEqual((t.redo(), t.mean("z"), t.made, k.version), (1, (-1, 2), 3, 0))
        self.refused(t, "put", ("y", ("draw", even(NONE, (1, 2)))), "Changed((1, 4))")
        t.put("x", ("draw", even(NONE, (3, 1))))
        self.assertEqual((t["x"], k["x"]), (("draw", even(NONE, (3, 1))), DRAW))
        self.refused(t, "drop", ("y",), "InUse('z')")
        # A copy of one that has been led far off is as it is, too.
        k.put("a", DRAW)
        k.see(SAY)
        self.assertEqual((k.copy().seen, k.copy().version, k.copy().made), ((SAY,), 2, k.made))


class TestDrawnSheets(SheetCase):
    """Sheets and kept ones led by chance, against what a plain model does."""

    def content(self, worlds, names):
        """A content, mostly with names that are set."""
        lot = worlds.lot

        def name():
            return lot.choice(names) if names and lot.random() < 0.95 else lot.choice(["q", "X", 0, "seen"])
        word = lot.choice(["draw", "draw", "sum", "sum", "greatest", "least", "choice"])
        if word == "draw":
            return lot.choice([("draw", worlds.spread()), ("draw", UNIT), ("draw", COIN), ("draw", lump(HALF)), ("draw", ((), ())), ("draw", None)])
        if word == "sum":
            some = [name() for _ in range(lot.randint(0, 3))]
            some = sorted({other for other in some if type(other) is str}) or some
            return "sum", tuple((pair(lot.choice([1, 1, -1, Fraction(1, 2)])), other) for other in some), pair(lot.choice([0, 1]))
        if word == "choice":
            return "choice", name(), lot.choice(["<", "<=", "=", ">"] if lot.random() < 0.1 else ["<", "<=", "="]), name(), name(), name()
        return word, name(), name()

    def remark(self, worlds, names):
        """A remark, mostly of names that are set."""
        lot = worlds.lot
        names = list(names) or ["x"]
        word = lot.choice(["<", "<", "<=", "=", "not", "and", "or"])
        if word == "not":
            return word, self.remark(worlds, names)
        if word in ("and", "or"):
            return word, self.remark(worlds, names), self.remark(worlds, names)
        return word, lot.choice(names), lot.choice(names + ["q"] if lot.random() < 0.05 else names)

    def step(self, worlds, names, seen):
        """What to do next: a word and its arguments."""
        lot = worlds.lot
        word = lot.choice(["put"] * 6 + ["drop", "drop", "see", "see", "forget", "undo", "undo", "redo", "redo", "chance", "chance", "mean", "mean", "spread", "batch", "at"])
        some = sorted(set(names) | {"a", "b", "cc"})
        if word == "put":
            return word, (lot.choice(some), self.content(worlds, names))
        if word in ("drop", "mean", "spread"):
            return word, (lot.choice(some),)
        if word in ("see", "chance"):
            return word, (self.remark(worlds, names),)
        if word == "forget":
            return word, (lot.choice([0, 0, 1, -1, len(seen)]),)
        if word == "batch":
            edits = []
            while len(edits) < 2:
                edit = self.step(worlds, names, seen)
                if edit[0] in ("put", "drop", "see", "forget"):
                    edits.append(edit)
            return word, (tuple(edits),)
        return word, (lot.randint(-1, 4),) if word == "at" else ()

    def done(self, model, word, args):
        """What the model does."""
        if word in ("put", "drop", "see", "forget", "batch"):
            return model.edit(word, *args)
        if word in ("chance", "mean", "spread"):
            return model.ask(word, args[0])
        if word == "undo":
            if not model.past:
                raise errors.NothingToUndo()
            model.undone.append(model.now)
            model.now = model.past.pop()
            return len(model.past)
        if word == "redo":
            if not model.undone:
                raise errors.NothingToRedo()
            model.past.append(model.now)
            model.now = model.undone.pop()
            return len(model.past)
        if not 0 <= args[0] <= len(model.past):
            raise errors.NoVersion(args[0])
        contents, seen = (model.past + [model.now])[args[0]]
        return tuple(sorted(contents.items())), seen

    def led(self, worlds, sheet, model, steps):
        """Lead both, and compare all that is told."""
        raised = {}
        for _ in range(steps):
            word, args = self.step(worlds, sheet.names, sheet.seen)
            expected, given = outcome(self.done, model, word, args), outcome(getattr(sheet, word), *args)
            if expected[0] == "raised":
                raised[expected[1]] = raised.get(expected[1], 0) + 1
                if expected[1] == "BadSpread":
                    expected, given = expected[:2], given[:2]
            self.assertEqual(given, expected, (word, args))
            contents, seen = model.now
            self.assertEqual((sheet.names, sheet.seen, sheet.version, sheet.made, len(sheet)),
                             (tuple(sorted(contents)), seen, len(model.past), len(model.kept), len(contents)))
            self.assertEqual([sheet[name] for name in sheet], [contents[name] for name in sorted(contents)])
            if worlds.lot.random() < 0.05:
                sheet = sheet.copy()
        return raised

    def test_sheets(self):
        worlds = Worlds(Draw(1500))
        raised = {}
        for _ in range(25):
            for name, many in self.led(worlds, Sheet(), Model(), 80).items():
                raised[name] = raised.get(name, 0) + many
        for name in ("BadName", "BadProgram", "BadSpread", "Rings", "InUse", "NoChance", "TooMany", "Unfit", "Rejected", "NothingToUndo", "NothingToRedo", "NoVersion"):
            self.assertGreater(raised.get(name, 0), 3, name)

    def test_kept_sheets(self):
        worlds = Worlds(Draw(1501))
        raised = {}
        for _ in range(25):
            self.sheet = Sheet()
            self.sheet.put("x", DRAW)
            self.sheet.put("y", ("draw", worlds.spread()))
            share = self.sheet.chance(("<=", "x", "y"))
            least = pair(Fraction(*share) * Fraction(worlds.lot.randint(0, 4), 4))
            kept = KeptSheet(self.sheet, ("<=", "x", "y"), least)
            model = Model(dict(self.sheet.at(2)[0]), (), ("<=", "x", "y"), least)
            model.ask("chance", ("<=", "x", "y"))
            for name, many in self.led(worlds, kept, model, 60).items():
                raised[name] = raised.get(name, 0) + many
        self.assertGreater(raised.get("Changed", 0), 20)

    def test_edits_taken_back(self):
        """A sheet whose edits are taken back has what it had."""
        worlds = Worlds(Draw(1502))
        for _ in range(20):
            sheet = Sheet()
            states = [sheet.at(0)]
            for _ in range(40):
                word, args = self.step(worlds, sheet.names, sheet.seen)
                if word in ("put", "drop", "see", "forget", "batch"):
                    ahead = sheet.version
                    try:
                        self.assertEqual(getattr(sheet, word)(*args), ahead + 1)
                        states.append((tuple((name, sheet[name]) for name in sheet), sheet.seen))
                    except UnsureError:
                        self.assertEqual(sheet.version, ahead)
            self.assertEqual([sheet.at(k) for k in range(sheet.version + 1)], states)
            for version in range(sheet.version - 1, -1, -1):
                self.assertEqual(sheet.undo(), version)
                self.assertEqual((tuple((name, sheet[name]) for name in sheet), sheet.seen), states[version])

    def test_sayings_seen_in_any_order(self):
        worlds = Worlds(Draw(1503))
        for _ in range(15):
            sheet = Sheet()
            for name in "xy":
                sheet.put(name, ("draw", worlds.spread()))
            sheet.put("z", ("greatest", "x", "y"))
            remarks = [self.remark(worlds, ("x", "y", "z"))[:3] for _ in range(2)]
            told = set()
            for some in itertools.permutations(remarks):
                other = sheet.copy()
                try:
                    for remark in some:
                        other.see(remark)
                    told.add(repr((other.mean("z"), other.spread("x"), other.chance(SAY))))
                except UnsureError as error:
                    told.add(type(error).__name__)
            self.assertEqual(len(told - {"NoChance", "TooMany"}), 1 if told - {"NoChance", "TooMany"} else 0)


if __name__ == "__main__":
    unittest.main()
