"""Cells: all points parted into bodies, in each of which a name comes to what one form does."""

from unsureworks.bodies import point_of, spot_apart, vector_of
from unsureworks.bounds import MAX_BODY, MAX_CELLS
from unsureworks.coverings import point_in_none, point_in_two
from unsureworks.forms import compared_in, forms_added, is_form, is_true, is_word, names_in
from unsureworks.matters import refuse_many
from unsureworks.ways import part_of, truths_of, ways_of


def cells(draws, program, name):
    """Any tuple of cells that tells what a name comes to at all points."""
    return tuple([(part[0], forms[name]) for part, forms in ways_of(draws, program, [name], part_of(draws, ()))])


def cells_error(draws, program, name, value):
    """None if value, any value, is a tuple of cells that tells what a name comes to; otherwise what is wrong."""
    if not isinstance(value, tuple) or len(value) > MAX_CELLS or not all([_is_cell(draws, item) for item in value]):
        return "form"
    bodies = [body for body, _ in value]
    point = point_in_none(draws, bodies)
    if point is not None:
        return ("none",) + point
    point = point_in_two(draws, bodies)
    if point is not None:
        return ("two",) + point
    for body, form in value:
        point = _point_of_other(draws, program, name, body, form)
        if point is not None:
            return ("other",) + point
    return None


def _is_cell(draws, value):
    """Whether value, any value, is a cell for so many draws, with at most MAX_BODY comparisons."""
    if not isinstance(value, tuple) or len(value) != 2:
        return False
    body, form = value
    if not isinstance(body, tuple) or len(body) > MAX_BODY or not is_form(draws, form):
        return False
    return all([_is_comparison(draws, item) for item in body])


def _is_comparison(draws, value):
    """Whether value, any value, is a comparison for so many draws."""
    return isinstance(value, tuple) and len(value) == 2 and is_form(draws, value[0]) and is_word(value[1])


def _point_of_other(draws, program, name, body, form):
    """Any point at which a body holds and a name comes to something else than a form, or None."""
    part = part_of(draws, body)
    ways = [] if part is None else ways_of(draws, program, [name], part)
    for (_, _, cone), forms in ways:
        vector = spot_apart(cone, vector_of(forms_added(form, forms[name], (-1, 1)))[0])
        if vector is not None:
            return point_of(vector)
    return None


def saying_cells(draws, program, saying):
    """Any tuple of bodies, no two of which hold at one point, one of which holds just where a saying does."""
    refuse_many(draws, program, [], [saying], 0)
    found = []
    for way, forms in ways_of(draws, program, names_in(saying), part_of(draws, ())):
        for part, truths in truths_of(way, forms, compared_in(saying)):
            if is_true(saying, {told: truth for told, truth in truths}):
                found.append(part[0])
    return tuple(found)
