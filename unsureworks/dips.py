"""Dips: places at which a polynomial is below 0, or else what shows that there are none."""

from unsureworks.numbers import less, order, over, plus, times
from unsureworks.polynomials import at
from unsureworks.rows import end_row, polynomial_of, row_halves, row_of, row_squeezed, squares_apart


def place_below(p, low, high):
    """Any fraction between low and high at which a polynomial other than () is below 0, or None."""
    return dip_or_paper(p, low, high)[0]


def dip_or_paper(p, low, high):
    """The pair of any fraction between low and high, other than these, at which p is below 0, and of None.

    If there is none, the pair of None and of a sign paper of p from low to high.
    """
    if p == ():
        return None, ((low, high, (), ()),)
    row, bottom = row_of(p)
    root, rest = squares_apart(row)
    width = less(high, low)
    dip, cuts = _dip_or_cuts(row_squeezed(rest, low, width))
    if dip is not None:
        return _inside_ahead_of(plus(low, times(dip, width)), p, low, high), None
    root, rest = polynomial_of(root, 1), polynomial_of(rest, bottom)
    places = [plus(low, times(cut, width)) for cut in cuts]
    return None, tuple([(begin, end, root, rest) for begin, end in zip(places, places[1:])])


def _dip_or_cuts(row):
    """The pair of a fraction above 0, at most 1, at which a row without double places is below 0, and of None.

    If there is none from 0 to 1, the pair of None and of the list of the ends of stretches. They are halved until the
    row is below 0 at the end of one, or until it is a sum of products of the distances from both ends, with factors of
    which none is below 0. One of both comes in the end: where the row is 0 at a place that is no end it changes its
    sign there.
    """
    cuts = [(0, 1)]
    waiting = [(row, (0, 1), (1, 1))]
    while waiting:
        part, begin, end = waiting.pop()
        if sum(part) < 0:
            return end, None
        if min(end_row(part)) >= 0:
            cuts.append(end)
        else:
            middle = over(plus(begin, end), (2, 1))
            left, right = row_halves(part)
            waiting.append((right, middle, end))
            waiting.append((left, begin, middle))
    return None, cuts


def _inside_ahead_of(dip, p, low, high):
    """A fraction between low and high at which p is below 0, as it is everywhere ahead of dip for a while.

    At dip itself it may be 0, or dip may be high.
    """
    place, step = dip, less(high, low)
    while not _is_between(low, place, high) or at(p, place)[0] >= 0:
        step = over(step, (2, 1))
        place = less(dip, step)
    return place


def _is_between(low, f, high):
    """Whether a fraction lies between two others."""
    return order(low, f) < 0 and order(f, high) < 0
