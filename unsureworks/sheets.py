"""Sheets: names with contents, and remarks that were seen, with edits that can be taken back."""

from unsureworks.bounds import BATCH, MAX_EDITS
from unsureworks.errors import (BadBatch, BadName, Changed, NoChance, NothingToRedo, NothingToUndo, NoVersion, Rejected,
                                TooManyEdits, Unfit, UnsureError)
from unsureworks.numbers import is_fraction, is_integer, order
from unsureworks.pages import Page, is_set, page_dropped, page_forgotten, page_put
from unsureworks.questions import Answers

# How many arguments the edits of a batch take.
ARGUMENTS = {"put": 2, "drop": 1, "see": 1, "forget": 1}


class Sheet:
    """Names with contents, and remarks that were seen."""

    def __init__(self):
        self._page = Page({}, ())
        self._past = []
        self._undone = []
        self._answers = Answers({}, {})

    @property
    def names(self):
        """The ascending tuple of the names that are set."""
        return self._page.ordered

    @property
    def seen(self):
        """The tuple of the remarks that were seen."""
        return self._page.remarks

    @property
    def version(self):
        """How many edits stand."""
        return len(self._past)

    @property
    def made(self):
        """How many answers were made."""
        return len(self._answers.kept)

    def __len__(self):
        return len(self._page.ordered)

    def __contains__(self, value):
        return is_set(self._page, value)

    def __iter__(self):
        return iter(self._page.ordered)

    def __getitem__(self, name):
        if not is_set(self._page, name):
            raise BadName(name)
        return self._page.contents[name]

    def __eq__(self, other):
        if not isinstance(other, Sheet):
            return False
        return self._page.contents == other._page.contents and self._page.remarks == other._page.remarks

    def put(self, name, content):
        """Set a name to a content; the new version."""
        return self._turned(page_put(self._page, name, content))

    def drop(self, name):
        """Take a name away; the new version."""
        return self._turned(page_dropped(self._page, name))

    def see(self, remark):
        """Take a remark as seen; the new version."""
        return self._turned(self._page_seen(self._page, remark))

    def forget(self, place):
        """Take away the remark at a place; the new version."""
        return self._turned(page_forgotten(self._page, place))

    def batch(self, edits):
        """Make several edits as one; the new version."""
        if not isinstance(edits, tuple) or len(edits) > BATCH or not all([_is_edit(edit) for edit in edits]):
            raise BadBatch()
        page = self._page
        for place, (word, arguments) in enumerate(edits):
            try:
                page = self._page_edited(page, word, arguments)
            except UnsureError:
                raise Rejected(place) from None
        return self._turned(page)

    def _page_edited(self, page, word, arguments):
        """The page behind an edit of a batch."""
        if word == "put":
            return page_put(page, arguments[0], arguments[1])
        if word == "drop":
            return page_dropped(page, arguments[0])
        if word == "see":
            return self._page_seen(page, arguments[0])
        return page_forgotten(page, arguments[0])

    def _page_seen(self, page, remark):
        """The page with a remark, any value, seen on it."""
        if self._answers.told(page, "chance", remark)[0] == 0:
            raise NoChance()
        return Page(page.contents, page.remarks + (remark,))

    def _turned(self, page):
        """Go to the page behind an edit; the new version."""
        self._refuse_page(page)
        if len(self._past) == MAX_EDITS:
            raise TooManyEdits()
        self._past.append(self._page)
        self._page = page
        self._undone = []
        return len(self._past)

    def _refuse_page(self, page):
        """Raise an error if an edit may not lead to a page; of a sheet it may lead to any."""

    def chance(self, remark):
        """The chance of a remark, given what was seen."""
        return self._answers.told(self._page, "chance", remark)

    def mean(self, name):
        """The mean of a name, given what was seen."""
        return self._answers.told(self._page, "mean", name)

    def spread(self, name):
        """The spread of a name, given what was seen."""
        return self._answers.told(self._page, "spread", name)

    def undo(self):
        """Take back the last edit that stands; the version then."""
        if not self._past:
            raise NothingToUndo()
        self._undone.append(self._page)
        self._page = self._past.pop()
        return len(self._past)

    def redo(self):
        """Make the edit again that was taken back last; the version then."""
        if not self._undone:
            raise NothingToRedo()
        self._past.append(self._page)
        self._page = self._undone.pop()
        return len(self._past)

    def at(self, version):
        """The pair of all names with contents, and of the remarks seen, when so many edits stood."""
        if not is_integer(version) or not 0 <= version <= len(self._past):
            raise NoVersion(version)
        page = (self._past + [self._page])[version]
        return tuple([(name, page.contents[name]) for name in page.ordered]), page.remarks

    def copy(self):
        """Another sheet that is as this one is."""
        found = Sheet()
        found._take(self)
        return found

    def _take(self, other):
        """Be as another sheet is."""
        self._page = other._page
        self._past = list(other._past)
        self._undone = list(other._undone)
        self._answers = other._answers.twin()

    def attempt(self, work):
        """What work, called with the sheet, returns; if it raises an error of the package nothing else of it stays."""
        page, past, undone = self._page, list(self._past), list(self._undone)
        try:
            return work(self)
        except UnsureError:
            self._page, self._past, self._undone = page, past, undone
            raise


class KeptSheet(Sheet):
    """A sheet in which the chance of a remark stays at least as great as told."""

    def __init__(self, value, remark, least):
        super().__init__()
        if not isinstance(value, Sheet) or not is_fraction(least):
            raise Unfit()
        self._page = value._page
        self._answers = Answers(value._answers.reckoned, {})
        self._remark = remark
        self._least = least
        share = self.chance(remark)
        if order(share, least) < 0:
            raise Changed(share)

    def _refuse_page(self, page):
        """Raise Changed if the chance of the remark would be too small on a page, or could not be told."""
        try:
            share = self._answers.told(page, "chance", self._remark)
        except UnsureError:
            raise Changed(None) from None
        if order(share, self._least) < 0:
            raise Changed(share)

    def copy(self):
        """Another sheet that is as this one is, and keeps the same."""
        found = KeptSheet(self, self._remark, self._least)
        found._take(self)
        return found


def _is_edit(value):
    """Whether value, any value, is the word of an edit and a tuple of as many arguments as it takes."""
    if not isinstance(value, tuple) or len(value) != 2:
        return False
    word, arguments = value
    if not isinstance(word, str) or not isinstance(arguments, tuple):
        return False
    return ARGUMENTS.get(word) == len(arguments)


def sheet_of(page):
    """A new sheet with what is on a page."""
    found = Sheet()
    found._page = page
    return found
