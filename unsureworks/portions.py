"""Portions: integrals over a region of a box, of the pieces' polynomials and of what is asked."""

from unsureworks.bodies import vector_of
from unsureworks.cones import halves_of
from unsureworks.faces import edges_over, integral_over, put_along, put_along_plane
from unsureworks.forms import is_constant
from unsureworks.grids import grid_of, grid_times
from unsureworks.numbers import over, times
from unsureworks.polynomials import constant_of, scaled
from unsureworks.regions import is_piece, weight_of
from unsureworks.rows import row_of


def portion_of(box, region, asked):
    """The portion of a region of a box, with the product of what some names come to there asked.

    The region is for all t, or for a single one.
    """
    (_, rays, _), planes, forms, moment = region
    inner = len(planes[0]) - 2
    if inner == 0:
        total = weight_of(box)
        for name in asked:
            total = times(total, forms[name][1])
        return total
    grid, bottom = _grid_in(box, list(range(inner)), [forms[name] for name in asked])
    flat = [(vector[:inner] + vector[-1:], tight) for vector, tight in rays]
    # Where the region is for all t, none of its planes hangs on t.
    planes = [_put_at(plane, moment) for plane in planes] if moment is not None else planes
    integral = integral_over(flat, [plane[:inner] + plane[-1:] for plane in planes], grid, bottom)
    return times(integral, weight_of(box))


def _put_at(plane, moment):
    """A plane that holds at one t what a given one does, t not standing in it."""
    top, bottom = moment
    return tuple([factor * bottom for factor in plane[:-2]] + [0, plane[-1] * bottom + plane[-2] * top])


def _grid_in(box, order, asked):
    """The pair of a grid and of an integer: divided by it, it is the product of the pieces' polynomials and of forms.

    The variables are the inner draws, in an order that is told; t does not stand in the forms.
    """
    polynomials = [item[2] for item in box if is_piece(item)]
    rows = [row_of(polynomials[place]) for place in order]
    grid, bottom = grid_of([row for row, _ in rows]), 1
    for _, under in rows:
        bottom *= under
    for form in asked:
        vector, under = vector_of(form)
        grid = grid_times(grid, [vector[place] for place in order] + [vector[-1]])
        bottom *= under
    return grid, bottom


def _with_t(grid, deep):
    """A grid with t as one variable more, behind the others."""
    if deep == 0:
        return [grid]
    return [_with_t(inner, deep - 1) for inner in grid]


def course_of(box, region):
    """The list of triples (low, high, polynomial) whose sum is, at each t, the portion of a region with 1 asked.

    low and high are fractions, or None where there is no end; the region is not one of a single t.
    """
    (lines, rays, _), planes, _, _ = region
    weight = weight_of(box)
    if lines:
        return [(None, None, constant_of(portion_of(box, region, [])))]
    inner = len(planes[0]) - 2
    grid, bottom = (1, 1) if inner == 0 else _grid_in(box, list(range(inner)), [])
    edges = edges_over(rays, planes, _with_t(grid, inner), bottom)
    return [(low, high, scaled(polynomial, weight)) for low, high, polynomial in edges]


def measure_of(box, region, name, asked):
    """How the portion of a region is spread over what a name comes to, with the product of some names asked.

    It is a pair of a list of pairs (place, weight) and of a list of triples (low, high, polynomial).
    """
    cone, planes, forms, _ = region
    form = forms[name]
    if is_constant(form):
        return [(form[1], portion_of(box, region, asked))], []
    vector, under = vector_of(form)
    inner = len(vector) - 2
    # In this plane t is what the name comes to.
    plane = vector[:inner] + (-under, vector[-1])
    level = halves_of(cone, plane)[1]
    first = [place for place in range(inner) if vector[place] != 0][0]
    order = [first] + [place for place in range(inner) if place != first]
    grid, bottom = _grid_in(box, order, [forms[other] for other in asked])
    turned = [plane[place] for place in order] + list(plane[inner:])
    put, further = put_along_plane(turned, _with_t(grid, inner))
    sides = []
    for other in planes + [plane]:
        sides.append(put_along(turned, [other[place] for place in order] + list(other[inner:])))
    share = times(weight_of(box), over((under, 1), (abs(vector[first]), 1)))
    pieces = edges_over(level[1], sides, put, bottom * further)
    return [], [(low, high, scaled(polynomial, share)) for low, high, polynomial in pieces]
