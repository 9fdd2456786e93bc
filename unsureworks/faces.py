"""Faces: integrals of grids over what comparisons leave of all points, by going from faces to their own sides.

The integral over a face is, over all variables but the first one, what the heap over the first one comes to at the
sides above, less what it comes to at the sides below. In a side the first variable is a line of the other ones, so that
sides have one variable less than their face; in the end they are edges, which have a single variable.

Vectors, which are the ends of edges, and planes have an integer for each variable and a last one, as in cones. A face
is told by a number whose bits tell which of the vectors it has.
"""

from unsureworks.grids import grid_heap, grid_put, grid_scaled
from unsureworks.numbers import less, plus, reduced
from unsureworks.polynomials import at, heap_of, trimmed
from unsureworks.rows import plain_row, polynomial_of


def integral_over(rays, planes, grid, bottom):
    """The integral of a grid, divided by bottom, over what is told as edges_over asks for; no vector is a direction."""
    total = (0, 1)
    for low, high, polynomial in edges_over(rays, planes, grid, bottom):
        heap = heap_of(polynomial)
        total = plus(total, less(at(heap, high), at(heap, low)))
    return total


def edges_over(rays, planes, grid, bottom):
    """The integral of a grid, divided by bottom, over all variables but the last one, for all of what this may be.

    It is the sum of the polynomials of all triples (low, high, polynomial) in the list that is returned, each of them
    from low to high alone. These are fractions, or None if there is no end. rays are pairs of a vector and of an
    integer whose bits tell which of the planes it lies in, as those of a cone; of the vector only the last variable,
    and the number behind it, are looked at.
    """
    face = (1 << len(rays)) - 1
    sides = []
    for place, plane in enumerate(planes):
        share = sum([1 << count for count, (_, tight) in enumerate(rays) if tight >> place & 1])
        if share != face:
            sides.append((plane, share))
    found = []
    for edge, row, under in _edges(face, sides, grid, bottom, len(planes[0]) - 1):
        first, last = rays[(edge & -edge).bit_length() - 1][0], rays[edge.bit_length() - 1][0]
        found.append(_ends_of(first, last) + (trimmed(polynomial_of(row, under)),))
    return found


def _ends_of(first, last):
    """The pair of the low and of the high end of the edge that has two vectors, by their last variable."""
    if first[-1] == 0:
        first, last = last, first
    if last[-1] == 0:
        end = reduced(first[-2], first[-1])
        return (end, None) if last[-2] > 0 else (None, end)
    if first[-2] * last[-1] > last[-2] * first[-1]:
        first, last = last, first
    return reduced(first[-2], first[-1]), reduced(last[-2], last[-1])


def _edges(face, sides, grid, bottom, deep):
    """The list of triples of an edge, of a row and of an integer by which it is divided, for a face."""
    if deep == 1:
        return [(face, grid, bottom)]
    heap, parts = grid_heap(grid, deep)
    found = []
    greatest = _greatest_sides(sides)
    for plane, share in greatest:
        if plane[0] == 0:
            continue
        beside = [(other, mask & share) for other, mask in greatest if mask != share and mask & share != 0]
        further = [(put_along(plane, other), mask) for other, mask in beside]
        inner, under = put_along_plane(plane, heap)
        if plane[0] < 0:
            inner = grid_scaled(inner, -1, deep - 1)
        found += _edges(share, further, inner, bottom * parts * under, deep - 1)
    return found


def _greatest_sides(sides):
    """The list of those sides that are no parts of others, each once; what is left out is less than a side."""
    found = {}
    for plane, share in sides:
        if not any([share & mask == share and share != mask for _, mask in sides]):
            found[share] = plane
    return [(plane, share) for share, plane in found.items()]


def put_along_plane(plane, grid):
    """The pair of a grid and of an integer: divided by it, it is what a grid comes to in a plane.

    The first variable, on which the plane hangs, is left out.
    """
    sign = -1 if plane[0] > 0 else 1
    return grid_put(grid, [sign * factor for factor in plane[1:]], abs(plane[0]))


def put_along(plane, other):
    """A plane that holds in another plane just what a given one does, its first variable left out."""
    steep, under = other[0], plane[0]
    if under < 0:
        steep, under = -steep, -under
    row = [under * factor - steep * along for factor, along in zip(other[1:], plane[1:])]
    return plain_row(row) if any(row) else row
