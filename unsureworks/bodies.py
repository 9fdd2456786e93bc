"""Bodies: tuples of comparisons of forms with 0."""

from math import lcm

from unsureworks.cones import all_points, inner_point, kept, together, worth_at
from unsureworks.errors import NoPoint
from unsureworks.forms import constant_form, forms_added
from unsureworks.numbers import is_fraction, reduced
from unsureworks.rows import plain_row


def point_in(draws, body):
    """Any point at which a body holds."""
    rows = rows_of(body)
    found = spot_of(cone_of(all_points(draws + 2), rows), rows)
    if found is None:
        raise NoPoint(_paper_of(draws, body))
    return point_of(found)


def vector_of(form):
    """The pair of the vector of a form, all of it over one bottom, and of this bottom.

    It has the factors, by and the constant: the numbers of a point's vector are the draws' values, t and the bottom.
    """
    factors, constant, by = form
    numbers = factors + (by, constant)
    bottom = 1
    for _, under in numbers:
        bottom = lcm(bottom, under)
    return tuple([top * (bottom // under) for top, under in numbers]), bottom


def rows_of(body):
    """The list of pairs of the vector of a form and of a word, for all comparisons of a body."""
    return [(vector_of(form)[0], word) for form, word in body]


def cone_of(cone, rows):
    """The cone of what comparisons, told by their rows, leave of a cone; "<" leaves as much as "<=" does."""
    for vector, word in rows:
        cone = kept(cone, vector, word)
    return cone


def spot_of(cone, rows):
    """The vector of a point inside the cone that comparisons leave, if all of them hold there; otherwise None.

    If they hold together anywhere, they do so at each point inside.
    """
    vector = inner_point(cone)
    if vector is None or not all([word != "<" or worth_at(form, vector) < 0 for form, word in rows]):
        return None
    return vector


def spot_apart(cone, form):
    """The vector of a point inside a cone, that has one, at which a form does not come to 0, or None."""
    vector = inner_point(cone)
    if worth_at(form, vector) != 0:
        return vector
    for further in cone[0] + [ray for ray, _ in cone[1]]:
        if worth_at(form, further) != 0:
            return together(vector, further)
    return None


def point_of(vector):
    """The point for which a vector stands."""
    bottom = vector[-1]
    numbers = [reduced(top, bottom) for top in vector[:-1]]
    return tuple(numbers[:-1]), numbers[-1]


def _paper_of(draws, body):
    """A paper that there is no point at which a body holds.

    Comparisons are left out as long as the others can not hold together, either. Then there is just one way, but for
    multiples, in which the forms that are left make a sum without factors.
    """
    left = list(range(len(body)))
    for place in range(len(body)):
        fewer = [other for other in left if other != place]
        rows = rows_of([body[other] for other in fewer])
        if spot_of(cone_of(all_points(draws + 2), rows), rows) is None:
            left = fewer
    vectors = [vector_of(body[place][0]) for place in left]
    shares = _shares_without_factors([vector for vector, _ in vectors])
    paper = [(0, 1)] * len(body)
    tops = plain_row([share * bottom for share, (_, bottom) in zip(shares, vectors)])
    for place, top in zip(left, tops):
        paper[place] = (top, 1)
    if not no_point_holds(draws, body, tuple(paper)):
        paper = [(-share, bottom) for share, bottom in paper]
    return tuple(paper)


def _shares_without_factors(vectors):
    """The list of integers, not all 0, such that the sum of vectors, each times its own, has only its last number."""
    made = []
    for place, vector in enumerate(vectors):
        row = list(vector[:-1]) + [1 if other == place else 0 for other in range(len(vectors))]
        for pivot, other in made:
            if row[pivot] != 0:
                row = plain_row([other[pivot] * first - row[pivot] * second for first, second in zip(row, other)])
        pivots = [pivot for pivot in range(len(vector) - 1) if row[pivot] != 0]
        if not pivots:
            return row[len(vector) - 1:]
        made.append((pivots[0], row))
    return []


def no_point_holds(draws, body, value):
    """Whether value, any value, is a paper that there is no point at which a body holds."""
    if not isinstance(value, tuple) or len(value) != len(body) or not all([is_fraction(share) for share in value]):
        return False
    total = constant_form(draws, (0, 1))
    counts = False
    for (form, word), share in zip(body, value):
        if share[0] < 0 and word != "=":
            return False
        counts = counts or (share[0] > 0 and word == "<")
        total = forms_added(total, form, share)
    factors, (top, _), by = total
    if by[0] != 0 or any([factor[0] != 0 for factor in factors]):
        return False
    return top > 0 or (top == 0 and counts)
