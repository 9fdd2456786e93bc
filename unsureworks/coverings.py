"""Coverings: whether each point lies in some of several bodies, and whether one lies in two of them.

A body is told here by a list of pairs: the place of a plane in a list, and the signs that what a form comes to may
have there. All comparisons of forms that are multiples of one another have the same plane.
"""

from unsureworks.bodies import point_of, rows_of
from unsureworks.cones import all_points, halves_of, inner_point, side_of
from unsureworks.forms import signs_of
from unsureworks.rows import plain_row


def point_in_none(draws, bodies):
    """Any point at which none of some bodies holds, or None."""
    return _point_where(draws, bodies, _is_bare, _is_covered)


def point_in_two(draws, bodies):
    """Any point at which two of some bodies hold, or None."""
    return _point_where(draws, bodies, _is_shared, _is_alone)


def _is_bare(bodies):
    """Whether no body is left."""
    return bodies == []


def _is_covered(bodies):
    """Whether a body that is left asks for nothing more."""
    return [] in bodies


def _is_shared(bodies):
    """Whether two of the bodies that are left ask for nothing more."""
    return bodies.count([]) > 1


def _is_alone(bodies):
    """Whether at most one body is left."""
    return len(bodies) < 2


def _point_where(draws, bodies, is_found, is_done):
    """Any point that is_found tells of, or None.

    All points are parted by planes again and again; in each part those bodies are left that may hold there, each with
    those comparisons that hold in some of the part only. Parts of which is_done tells are given up.
    """
    planes, told = _planes_and_bodies(bodies)
    waiting = [(all_points(draws + 2), told)]
    while waiting:
        cone, ahead = waiting.pop()
        left = _left_in(cone, planes, ahead)
        if is_found(left):
            return point_of(inner_point(cone))
        if not is_done(left):
            waiting += [(part, left) for part in halves_of(cone, planes[_best_met(left)])]
    return None


def _planes_and_bodies(bodies):
    """The pair of the list of all planes of some bodies, and of these bodies, told by them."""
    places, told = {}, []
    for body in bodies:
        pairs = []
        for vector, word in rows_of(body):
            plane, sign = _plane_of(vector)
            if plane not in places:
                places[plane] = len(places)
            pairs.append((places[plane], [sign * other for other in signs_of(word)]))
        told.append(pairs)
    return list(places), told


def _plane_of(vector):
    """The pair of the vector that stands for all multiples of a vector, and of the sign of this multiple."""
    firsts = [number for number in vector if number != 0]
    if not firsts:
        return vector, 1
    sign = 1 if firsts[0] > 0 else -1
    return tuple([sign * number for number in plain_row(vector)]), sign


def _left_in(cone, planes, bodies):
    """The bodies that may hold inside a cone, each with those comparisons that hold in some of it only."""
    sides = {}
    left = []
    for body in bodies:
        open_pairs = []
        fails = False
        for place, signs in body:
            if place not in sides:
                sides[place] = side_of(cone, planes[place])
            if sides[place] is None:
                open_pairs.append((place, signs))
            elif sides[place] not in signs:
                fails = True
        if not fails:
            left.append(open_pairs)
    return left


def _best_met(bodies):
    """The place of a plane of a body with the fewest comparisons; of these planes, one that most bodies have."""
    counts = {}
    for body in bodies:
        for place, _ in body:
            counts[place] = counts.get(place, 0) + 1
    brief = min([body for body in bodies if body != []], key=len)
    return max([met for met, _ in brief], key=lambda met: counts[met])
