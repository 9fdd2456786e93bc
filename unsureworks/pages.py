"""Pages: names with their contents, and the remarks that were seen, as they are at one time; and edits of pages.

A page is never changed: an edit makes another one.
"""

from unsureworks.contents import is_content, is_draw, is_name, names_used
from unsureworks.errors import BadName, BadProgram, BadSpread, BadWorld, InUse, Rings, Unfit
from unsureworks.forms import names_in
from unsureworks.numbers import is_integer
from unsureworks.spreads import spread_error
from unsureworks.worlds import world_error


class Page:
    """Names, in order, with their contents, and the remarks that were seen."""

    def __init__(self, contents, remarks):
        self.ordered = tuple(sorted(contents))
        self.contents = contents
        self.remarks = remarks


def is_set(page, value):
    """Whether value, any value, is a name that is set."""
    return isinstance(value, str) and value in page.contents


def hung_names(page, names):
    """The ascending list of all names on which some names hang; one that is not set hangs on itself alone."""
    marked = {name: True for name in names}
    waiting = list(marked)
    while waiting:
        content = page.contents.get(waiting.pop())
        for name in [] if content is None else names_used(content):
            if name not in marked:
                marked[name] = True
                waiting.append(name)
    return sorted(marked)


def refuse_unset(page, names):
    """Raise BadName with the first one of some names that is not set."""
    for name in names:
        if not is_set(page, name):
            raise BadName(name)


def page_put(page, name, content):
    """The page with a name, any value, set to a content, any value."""
    if not is_name(name):
        raise BadName(name)
    if not is_content(content):
        raise BadProgram("form")
    if is_draw(content):
        _refuse_draw(content[1])
    used = names_used(content)
    refuse_unset(page, used)
    if name in hung_names(page, used):
        raise Rings(name)
    contents = dict(page.contents)
    contents[name] = content
    return Page(contents, page.remarks)


def _refuse_draw(value):
    """Raise BadSpread or BadWorld if value, any value, is no spread that a draw may have."""
    error = spread_error(value)
    if error is not None:
        raise BadSpread(error)
    error = world_error((value,))
    if error is not None:
        raise BadWorld(error)


def page_dropped(page, name):
    """The page without a name, any value."""
    refuse_unset(page, [name])
    for other in page.ordered:
        if name in names_used(page.contents[other]):
            raise InUse(other)
    for place, remark in enumerate(page.remarks):
        if name in names_in(remark):
            raise InUse(place)
    contents = dict(page.contents)
    del contents[name]
    return Page(contents, page.remarks)


def page_forgotten(page, place):
    """The page without the remark at a place, any value."""
    if not is_integer(place) or not 0 <= place < len(page.remarks):
        raise Unfit()
    return Page(page.contents, page.remarks[:place] + page.remarks[place + 1:])
