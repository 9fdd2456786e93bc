"""Sweeps: many polynomials, each from one place to another one alone, added up from left to right."""

from unsureworks.numbers import ascending
from unsureworks.polynomials import added, scaled


def swept(pieces):
    """The sum of the polynomials of triples (low, high, polynomial), each from low to high alone.

    It is the pair of the polynomial ahead of all places, and of the list of pairs of a place, ascending, and of the
    polynomial behind it. low and high are fractions, or None where there is no end.
    """
    left, leaps = (), {}
    for low, high, polynomial in pieces:
        if low is None:
            left = added(left, polynomial)
        else:
            leaps[low] = added(leaps.get(low, ()), polynomial)
        if high is not None:
            leaps[high] = added(leaps.get(high, ()), scaled(polynomial, (-1, 1)))
    steps = []
    total = left
    for place in ascending(list(leaps)):
        total = added(total, leaps[place])
        steps.append((place, total))
    return left, steps
