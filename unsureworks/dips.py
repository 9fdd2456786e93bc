"""Dips: places at which a polynomial is below 0."""

from unsureworks.numbers import less, order, over, plus, times
from unsureworks.polynomials import at, shifted, stretched
from unsureworks.rows import row_of, row_shifted, squares_apart


def place_below(p, low, high):
    """Any fraction between low and high at which a polynomial other than () is below 0, or None."""
    width = less(high, low)
    squeezed = stretched(shifted(p, low), width)
    row, _ = row_of(squeezed)
    _, rest = squares_apart(row)
    dip = _dip_of(rest)
    if dip is None:
        return None
    return plus(low, times(_inside_ahead_of(dip, squeezed), width))


def _dip_of(row):
    """A fraction above 0, at most 1, at which a row without double places is below 0, or None.

    Stretches are halved until the row is below 0 at the end of one, or until it is a sum of products of the distances
    from both ends, with factors of which none is below 0. One of both comes in the end: where the row is 0 at a place
    that is no end it changes its sign there.
    """
    waiting = [(row, (0, 1), (1, 1))]
    while waiting:
        part, begin, end = waiting.pop()
        if sum(part) < 0:
            return end
        if min(row_shifted(part[::-1], 1)) < 0:
            middle = over(plus(begin, end), (2, 1))
            left = [factor << (len(part) - 1 - power) for power, factor in enumerate(part)]
            waiting.append((row_shifted(left, 1), middle, end))
            waiting.append((left, begin, middle))
    return None


def _inside_ahead_of(dip, p):
    """A fraction between 0 and 1 at which p is below 0, as it is everywhere ahead of dip for a while.

    At dip itself it may be 0, or dip may be 1.
    """
    place, step = dip, (1, 2)
    while not _is_between(place) or at(p, place)[0] >= 0:
        place = less(dip, step)
        step = over(step, (2, 1))
    return place


def _is_between(f):
    """Whether a fraction lies between 0 and 1."""
    return order((0, 1), f) < 0 and order(f, (1, 1)) < 0
