"""Shells: sheets that are led by lines of text."""

from unsureworks.contents import is_name, line_in, remark_in
from unsureworks.errors import UnsureError
from unsureworks.numbers import fraction_in, fraction_text, is_count_text
from unsureworks.sheets import Sheet
from unsureworks.sheettexts import sheet_text
from unsureworks.spreadtexts import spread_text


class Shell:
    """A sheet, empty at first, that is led by lines of text."""

    def __init__(self):
        self._sheet = Sheet()

    def say(self, line):
        """What a line, any value, comes to: a string."""
        if not isinstance(line, str):
            return "what"
        head, blank, rest = line.partition(" ")
        try:
            told = self._told_alone(head) if blank == "" else self._told_with(head, rest)
        except UnsureError as error:
            return "error " + error.__class__.__name__
        return "what" if told is None else told

    def _told_alone(self, head):
        """What a line without a rest comes to, or None."""
        if head == "undo":
            return _version_text(self._sheet.undo())
        if head == "redo":
            return _version_text(self._sheet.redo())
        if head == "made":
            return str(self._sheet.made)
        return sheet_text(self._sheet) if head == "text" else None

    def _told_with(self, head, rest):
        """What a line with a rest comes to, or None."""
        if head == "set":
            told = line_in(rest)
            return None if told is None else _version_text(self._sheet.put(told[0], told[1]))
        if head == "seen" or head == "chance":
            return self._told_of_remark(head, remark_in(rest))
        if head == "forget":
            return _version_text(self._sheet.forget(fraction_in(rest)[0])) if is_count_text(rest) else None
        return self._told_of_name(head, rest) if is_name(rest) else None

    def _told_of_remark(self, head, remark):
        """What a line with a remark, or None, comes to, or None."""
        if remark is None:
            return None
        if head == "seen":
            return _version_text(self._sheet.see(remark))
        return fraction_text(self._sheet.chance(remark))

    def _told_of_name(self, head, name):
        """What a line with a name comes to, or None."""
        if head == "drop":
            return _version_text(self._sheet.drop(name))
        if head == "mean":
            return fraction_text(self._sheet.mean(name))
        return spread_text(self._sheet.spread(name)) if head == "spread" else None


def _version_text(version):
    """What is told behind an edit."""
    return f"version {version}"
