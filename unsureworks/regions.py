"""Regions: how a program goes in a box of a world, wherever there is something to integrate.

A box is a tuple with a lump or a piece of each draw. Those of its draws that have a piece are inner ones: forms are for
these here, those with a lump being put at its place. A region is a tuple (cone, planes, forms, moment): the cone that
some comparisons leave of the box, for all t or for some; the planes of these, one for each bit of the cone's rays;
the list of the forms of the names of a program there, None for those that are not asked for; and t, if the region is
one of a single t, otherwise None. What is left out has nothing to integrate at any t.
"""

from unsureworks.bodies import vector_of
from unsureworks.cones import all_points, halves_of, side_of
from unsureworks.forms import constant_form, draw_form, forms_added, hung_on, is_choice, signs_of
from unsureworks.numbers import contrary, over, times
from unsureworks.ways import choice_of, form_of_line


def boxes_of(world):
    """The list of all boxes of a world."""
    boxes = [()]
    for lumps, curve in world:
        boxes = [box + (item,) for box in boxes for item in lumps + curve]
    return boxes


def is_piece(item):
    """Whether an item of a box is a piece."""
    return len(item) == 3


def weight_of(box):
    """The product of the weights of all lumps of a box."""
    total = (1, 1)
    for item in box:
        if not is_piece(item):
            total = times(total, item[1])
    return total


def region_of(box):
    """The region that is all of a box, with the forms of its draws."""
    draws = [draw for draw, item in enumerate(box) if is_piece(item)]
    inner = len(draws)
    forms = []
    for draw, item in enumerate(box):
        forms.append(draw_form(inner, draws.index(draw)) if is_piece(item) else constant_form(inner, item[0]))
    # The first plane stands for the bit of the rays that is about none.
    region = all_points(inner + 2), [(0,) * (inner + 2)], forms, None
    for item, form in zip(box, forms):
        if is_piece(item):
            low, high, _ = item
            region = _below(region, forms_added(constant_form(inner, low), form, (-1, 1)))
            region = _below(region, forms_added(form, constant_form(inner, high), (-1, 1)))
    return region


def _below(region, form):
    """The region that is left of a region where a form comes to less than 0; it does so somewhere, not everywhere."""
    cone, planes, forms, moment = region
    vector, _ = vector_of(form)
    return halves_of(cone, vector)[0], planes + [vector], forms, moment


def _parted_by(region, form):
    """The list of pairs of a region and of a sign, -1, 0 or 1, that a form has there; together they are a region."""
    cone, planes, forms, moment = region
    vector, _ = vector_of(form)
    side = side_of(cone, vector)
    if side is not None:
        return [(region, side)]
    below, level, above = halves_of(cone, vector)
    turned = tuple([-number for number in vector])
    parts = [((below, planes + [vector], forms, moment), -1), ((above, planes + [turned], forms, moment), 1)]
    if not any(vector[:-2]):
        # The form changes with t alone: at one t it is 0 everywhere.
        meeting = contrary(over(form[1], form[2]))
        parts.append(((level, planes + [vector], forms, meeting), 0))
    return parts


def _compared(region, word, a, b):
    """The pair of the lists of the regions, together a region, where two names compare as told, and where not."""
    forms = region[2]
    signs = signs_of(word)
    so, not_so = [], []
    for part, sign in _parted_by(region, forms_added(forms[a], forms[b], (-1, 1))):
        if sign in signs:
            so.append(part)
        else:
            not_so.append(part)
    return so, not_so


def _with_form(region, form):
    """A region with the form of one name more."""
    cone, planes, forms, moment = region
    return cone, planes, forms + [form], moment


def _chosen_in(region, choice):
    """The list of the regions, together a region, each with the form more that a choice takes there."""
    a, word, b, x, y = choice
    so, not_so = _compared(region, word, a, b)
    return [_with_form(part, part[2][x]) for part in so] + [_with_form(part, part[2][y]) for part in not_so]


def regions_in(box, program, names):
    """The list of all regions of a box, with the forms of all names on which names of a program hang."""
    needed = hung_on(len(box), program, names)
    regions = [region_of(box)]
    for place, line in enumerate(program):
        if len(box) + place not in needed:
            regions = [_with_form(region, None) for region in regions]
        elif is_choice(line):
            regions = [part for region in regions for part in _chosen_in(region, choice_of(line))]
        else:
            regions = [_with_form(region, form_of_line(region[2], line)) for region in regions]
    return regions


def regions_where(regions, saying):
    """The list of the regions, together those of a list, where a saying holds; where it is None it holds."""
    if saying is None:
        return regions
    found = []
    for region in regions:
        found += _said(region, saying)[0]
    return found


def _said(region, saying):
    """The pair of the lists of the regions, together a region, where a saying holds, and where not."""
    if saying[0] == "not":
        so, not_so = _said(region, saying[1])
        return not_so, so
    if saying[0] == "and" or saying[0] == "or":
        so, not_so = _said(region, saying[1])
        open_ones = so if saying[0] == "and" else not_so
        further = [_said(part, saying[2]) for part in open_ones]
        held = [part for both in further for part in both[0]]
        other = [part for both in further for part in both[1]]
        return (held, not_so + other) if saying[0] == "and" else (so + held, other)
    return _compared(region, saying[0], saying[1], saying[2])
