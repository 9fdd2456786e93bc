"""Integrals of sums of powers over bodies."""

from math import lcm

from unsureworks.bodies import rows_of
from unsureworks.cones import all_points, inner_point, kept, worth_at
from unsureworks.errors import Endless, Unfit
from unsureworks.faces import integral_over


def body_integral(draws, body, powers):
    """The integral of a sum of powers over a body in which t does not stand."""
    for (_, _, by), _ in body:
        if by[0] != 0:
            raise Unfit()
    rows = [(vector[:-2] + vector[-1:], word) for vector, word in rows_of(body)]
    planes = [vector for vector, word in rows if any(vector) or word == "<"]
    cone = all_points(draws + 1)
    for plane in planes:
        cone = kept(cone, plane, "<=")
    if any([word == "=" and any(vector) for vector, word in rows]) or not _has_inside(cone, planes):
        return (0, 1)
    lines, rays, _ = cone
    if lines or any([vector[-1] == 0 for vector, _ in rays]):
        raise Endless()
    grid, bottom = _grid_of_powers(draws, powers)
    # The first bit of the rays is about no plane.
    return integral_over(rays, [(0,) * (draws + 1)] + planes, grid, bottom)


def _has_inside(cone, planes):
    """Whether there is a point at which the forms of all planes, that leave a cone, come to less than 0."""
    vector = inner_point(cone)
    return vector is not None and all([worth_at(plane, vector) < 0 for plane in planes])


def _grid_of_powers(draws, powers):
    """The pair of a grid and of an integer: divided by it, it is a sum of powers."""
    bottom = 1
    for _, (_, under) in powers:
        bottom = lcm(bottom, under)
    return _grid_of([(exponents, top * (bottom // under)) for exponents, (top, under) in powers], draws), bottom


def _grid_of(terms, deep):
    """The grid that is the sum of terms, pairs of the powers of all variables and of an integer."""
    many = max([exponents[0] for exponents, _ in terms], default=-1) + 1
    found = []
    for power in range(many):
        further = [(exponents[1:], factor) for exponents, factor in terms if exponents[0] == power]
        found.append(sum([factor for _, factor in further]) if deep == 1 else _grid_of(further, deep - 1))
    return found
