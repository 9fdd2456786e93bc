"""Shells: [M8]."""

import unittest

from tests.support import ODD_VALUES, Case, run_examples
from unsureworks.sheets import Sheet
from unsureworks.shells import Shell

EXAMPLES = """
>>> from unsureworks.shells import Shell
>>> h = Shell()
>>> [h.say("set x draw 0..1 1"), h.say("set y draw 1 @ 1/2"), h.say("chance < x y"), h.say("seen < x y"), h.say("spread x"), h.say("mean q"), h.say("mean"), h.say("made")]
['version 1', 'version 2', '1/2', 'version 3', '0..1/2 2', 'error BadName', 'what', '2']
"""


class TestShell(Case):

    def setUp(self):
        self.shell = Shell()
        self.says("set x draw 0..1 1", "version 1")
        self.says("set y draw 0..1 1", "version 2")

    def says(self, line, expected):
        """What is said to a line, in kind, too."""
        with self.subTest(repr(line)[:200]):
            told = self.shell.say(line)
            self.assertIs(type(told), str)
            self.assertEqual(told, expected)

    def says_what(self, *lines):
        """Lines that tell nothing, and change nothing."""
        ahead = [self.shell.say("text"), self.shell.say("made")]
        for line in lines:
            self.says(line, "what")
            self.assertEqual([self.shell.say("text"), self.shell.say("made")], ahead)

    def test_examples(self):
        run_examples(self, EXAMPLES)

    def test_by_name(self):
        self.assertEqual(self.shell.say(line="mean x"), "1/2")
        self.assertIn("say", vars(Shell))

    def test_set(self):
        for line, version in (("set z sum 1 x -1/2 y 3", 3), ("set g greatest x z", 4), ("set l least g g", 5), ("set c choice x <= y l g", 6), ("set x draw 1/2 @ 0; 0..1 1/2", 7), ("set k sum 5", 8),
                              ("set draw draw 0..1 1", 9), ("set set sum 0", 10)):
            self.says(line, f"version {version}")
        self.says("text", "c choice x <= y l g\ndraw draw 0..1 1\ng greatest x z\nk sum 5\nl least g g\nset sum 0\nx draw 1/2 @ 0; 0..1 1/2\ny draw 0..1 1\nz sum 1 x -1/2 y 3")
        self.says_what("set", "set ", "set x", "set x draw", "set x draw ", "set  x draw 0..1 1", "set x  draw 0..1 1", "set x draw  0..1 1", "set x draw 0..1 1 ", "set X draw 0..1 1", "set seen draw 0..1 1", "set seen < x y",
                       "set abcdefghijklm draw 0..1 1", "set x draw 2/4 @ 0", "set x draw 0..1 x", "set x sum", "set x sum 1 y", "set x sum 1 z 1 y 0", "set x sum 1 Y 0", "set x greatest y", "set x least y y y",
                       "set x choice y > y y y", "set x shift y 1", "set x draw 0..1 1\n", "set x draw 0..1 1\nset y draw 0..1 1", "set x < y z", "Set x draw 0..1 1", "set x1 sum 1")
        for line, error in (("set x draw 0..1 1/2", "BadSpread"), ("set x draw 0 @ 1", "BadSpread"), ("set x draw 1..0 1", "BadSpread"), ("set new draw 0..1 2", "BadSpread"), ("set x draw 1 @ 1000000", "BadWorld"),
                            ("set x draw 0..1 4 x^3", "BadWorld"), ("set new draw 1/3 @ 0; 1/3 @ 1; 1/3 @ 2", "BadWorld"), ("set x sum 1 q 0", "BadName"), ("set new greatest x q", "BadName"), ("set new sum 1 new 0", "BadName"),
                            ("set x sum 1 x 0", "Rings"), ("set x sum 1 z 0", "Rings"), ("set y least g g", "Rings")):
            self.says(line, "error " + error)
        self.says("undo", "version 9")

    def test_seen_and_forget(self):
        for line in ("seen", "seen ", "seen x", "seen < x", "seen < x y ", "seen  < x y", "seen < x y z", "seen > x y", "seen and < x y", "seen not < x y < x y", "seen < x Y", "seen " + "not " * 40 + "< x y",
                     "seen and and < x y < x y and < x y and < x y < x y", "seen < x y\n", "Seen < x y"):
            self.says_what(line)
        self.says("forget 0", "error Unfit")
        self.says("seen < x y", "version 3")
        self.says("seen not " + "not " * 38 + "<= y x", "version 4")
        self.says("seen < y x", "error NoChance")
        self.says("seen < x q", "error BadName")
        self.says("seen and < x y and < x y < x y", "version 5")
        self.says("seen < x y", "error TooMany")
        self.says("mean x", "error TooMany")
        self.says_what("forget", "forget ", "forget x", "forget 00", "forget 01", "forget -1", "forget +1", "forget 1.0", "forget 0 ", "forget  0", "forget 0 0", "forget 1/2", "forget one", "Forget 0", "forget 0\n")
        for line in ("forget 3", "forget 10", "forget " + "9" * 2000):
            self.says(line, "error Unfit")
        self.says("forget 2", "version 6")
        self.says("forget 0", "version 7")
        self.says("text", "x draw 0..1 1\ny draw 0..1 1\nseen not " + "not " * 38 + "<= y x")
        self.says("drop x", "error InUse")
        self.says("forget 0", "version 8")

    def test_drop(self):
        self.says("set z sum 1 x 0", "version 3")
        self.says("drop x", "error InUse")
        self.says("drop q", "error BadName")
        self.says_what("drop", "drop ", "drop X", "drop seen", "drop x ", "drop  x", "drop x y", "drop 0", "Drop x", "drop abcdefghijklm", "drop x\n")
        self.says("drop z", "version 4")
        self.says("drop x", "version 5")
        self.says("text", "y draw 0..1 1")

    def test_undo_and_redo(self):
        self.says("undo", "version 1")
        self.says("undo", "version 0")
        self.says("undo", "error NothingToUndo")
        self.says("text", "")
        self.says_what("undo ", "undo 1", "redo ", "redo x", "Undo", "UNDO", " undo", "undo\n", "undoo")
        self.says("redo", "version 1")
        self.says("redo", "version 2")
        self.says("redo", "error NothingToRedo")
        for version in range(3, 41):
            self.says("set x draw 0..1 1", f"version {version}")
        self.says("set x draw 0..1 1", "error TooManyEdits")
        self.says("set x sum 1 q 0", "error BadName")

    def test_questions(self):
        self.says("set z sum 1 x -1 y 0", "version 3")
        for line, told in (("chance < x y", "1/2"), ("chance or < x y <= y x", "1"), ("chance not <= x x", "0"), ("mean x", "1/2"), ("mean z", "0"), ("spread z", "-1..0 1 + 1 x; 0..1 1 - 1 x"), ("spread x", "0..1 1"),
                           ("mean q", "error BadName"), ("spread q", "error BadName"), ("chance < x q", "error BadName")):
            self.says(line, told)
        self.says("made", "7")
        self.says("chance < x y", "1/2")
        self.says("made", "7")
        self.says_what("chance", "chance ", "chance x", "chance < x y ", "chance  < x y", "chance < x", "mean", "mean ", "mean X", "mean x y", "mean x ", "mean  x", "mean seen", "spread", "spread ", "spread < x y", "spread x\n",
                       "Chance < x y", "Mean x", "made ", "made x", "text ", "text x", "Text", "made\n")
        self.says("set y draw 1 @ -1", "version 4")
        self.says("spread z", "1..2 1")
        self.says("seen < y x", "version 5")
        self.says("set y draw 1 @ 2", "version 6")
        for line in ("mean x", "spread z", "chance < x y", "seen < x y"):
            self.says(line, "error NoChance")
        for name in "abcd":
            self.shell.say(f"set {name} draw 0..1 1")
        self.says("mean a", "error NoChance")
        self.shell.say("forget 0")
        self.shell.say("set all sum 1 a 1 b 1 c 1 d 0")
        self.says("mean all", "error TooMany")

    def test_other_lines(self):
        self.says_what("", " ", "  ", "\n", "what", "help", "x", "x draw 0..1 1", "batch", "copy", "at 0", "attempt", "version", "names", "set\tx draw 0..1 1", "error", "< x y", "undo undo", "-", "~" * 3000)
        for odd in ODD_VALUES + [b"undo", ["undo"], ("undo",), {"undo": 1}, Sheet(), self.shell]:
            if not isinstance(odd, str):
                self.says_what(odd)

    def test_two_shells_side_by_side(self):
        other = Shell()
        self.assertEqual(other.say("text"), "")
        self.assertEqual(other.say("set x draw 1 @ 3"), "version 1")
        self.says("mean x", "1/2")
        self.assertEqual((other.say("mean x"), other.say("made"), other.say("mean y")), ("3", "1", "error BadName"))
        self.says("undo", "version 1")
        self.assertEqual((other.say("text"), self.shell.say("text")), ("x draw 1 @ 3", "x draw 0..1 1"))


if __name__ == "__main__":
    unittest.main()
