"""The texts of sheets: there, and back."""

from unsureworks.contents import is_draw, line_in, line_text, names_used, remark_in, remark_text
from unsureworks.errors import BadSpread, BadText
from unsureworks.forms import names_in
from unsureworks.pages import Page, hung_names
from unsureworks.sheets import sheet_of
from unsureworks.worlds import world_error

SEEN = "seen "


def sheet_text(sheet):
    """The text of a sheet: a line for each name, then one for each remark seen."""
    rows = [line_text(name, sheet[name]) for name in sheet.names]
    return "\n".join(rows + [SEEN + remark_text(remark) for remark in sheet.seen])


def read_sheet(value):
    """A new sheet with what a text, any value, tells."""
    if not isinstance(value, str):
        raise BadText(0)
    rows = value.split("\n") if value != "" else []
    contents, remarks = {}, []
    for place, row in enumerate(rows):
        if row.startswith(SEEN):
            remark = remark_in(row.removeprefix(SEEN))
            if remark is None:
                raise BadText(place)
            remarks.append(remark)
        else:
            told = _line_that_can_stand(row)
            if told is None or told[0] in contents or remarks:
                raise BadText(place)
            contents[told[0]] = told[1]
    page = Page(contents, tuple(remarks))
    # Each name has a line of its own, and these stand ahead of the remarks.
    for place, name in enumerate(contents):
        used = names_used(contents[name])
        if not _are_set(page, used) or name in hung_names(page, used):
            raise BadText(place)
    for place, remark in enumerate(remarks):
        if not _are_set(page, names_in(remark)):
            raise BadText(len(contents) + place)
    return sheet_of(page)


def _line_that_can_stand(row):
    """The pair of the name and the content that a line tells, or None; a draw's spread is one that a draw may have."""
    try:
        told = line_in(row)
    except BadSpread:
        return None
    if told is not None and is_draw(told[1]) and world_error((told[1][1],)) is not None:
        return None
    return told


def _are_set(page, names):
    """Whether all of some names are set."""
    return all([name in page.contents for name in names])
