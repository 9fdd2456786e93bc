"""Curves: tuples of pieces (low, high, polynomial), 0 where no piece is."""

from unsureworks.dips import place_below
from unsureworks.errors import Unfit
from unsureworks.numbers import contrary, greater_of, is_fraction, less, lesser_of, merged, order, over, plus, times
from unsureworks.polynomials import added, at, heap_of, is_polynomial, multiplied, scaled, shifted, stretched


def curve_error(value):
    """None if value, any value, is a curve; otherwise what is wrong with it."""
    if not isinstance(value, tuple):
        return "form"
    for place, item in enumerate(value):
        if not _is_piece(item):
            return ("piece", place)
    for place in range(1, len(value)):
        if order(value[place][0], value[place - 1][1]) < 0:
            return ("order", place)
    for place in range(1, len(value)):
        if value[place][0] == value[place - 1][1] and value[place][2] == value[place - 1][2]:
            return ("alike", place)
    return None


def _is_piece(value):
    """Whether value, any value, is a piece."""
    if not isinstance(value, tuple) or len(value) != 3:
        return False
    low, high, polynomial = value
    if not is_fraction(low) or not is_fraction(high) or order(low, high) >= 0:
        return False
    return is_polynomial(polynomial) and polynomial != ()


def tidied(pieces):
    """The curve of ascending pieces, some of which may have the polynomial () or that of the piece ahead."""
    found = []
    for low, high, polynomial in pieces:
        if polynomial == ():
            continue
        if found and found[-1][1] == low and found[-1][2] == polynomial:
            found[-1] = (found[-1][0], high, polynomial)
        else:
            found.append((low, high, polynomial))
    return tuple(found)


def knots_of(curve):
    """The ascending list of the knots of a curve, each once."""
    knots = []
    for low, high, _ in curve:
        if not knots or knots[-1] != low:
            knots.append(low)
        knots.append(high)
    return knots


def polynomials_between(curve, knots):
    """The list of the polynomials that a curve has from each of the ascending knots to the next one.

    All knots of the curve are among them.
    """
    found = []
    place = 0
    for low in knots[:-1]:
        while place < len(curve) and order(curve[place][1], low) <= 0:
            place += 1
        inside = place < len(curve) and order(curve[place][0], low) <= 0
        found.append(curve[place][2] if inside else ())
    return found


def _combined(one, other, act):
    """The curve with the polynomials that act makes of those of two curves, between all knots."""
    knots = merged(knots_of(one), knots_of(other))
    first = polynomials_between(one, knots)
    second = polynomials_between(other, knots)
    return tidied([(low, high, act(p, q)) for low, high, p, q in zip(knots, knots[1:], first, second)])


def sides(curve, f):
    """The pair of what a curve comes to at a fraction from the left and from the right."""
    left, right = (0, 1), (0, 1)
    for low, high, polynomial in curve:
        behind_low, behind_high = order(f, low), order(f, high)
        if behind_low > 0 and behind_high <= 0:
            left = at(polynomial, f)
        if behind_low >= 0 and behind_high < 0:
            right = at(polynomial, f)
    return left, right


def curves_added(one, other):
    """The sum of two curves."""
    return _combined(one, other, added)


def curves_multiplied(one, other):
    """The product of two curves."""
    return _combined(one, other, multiplied)


def curve_scaled(curve, f):
    """The product of a curve and a fraction."""
    return tidied([(low, high, scaled(polynomial, f)) for low, high, polynomial in curve])


def curve_shifted(curve, f):
    """The curve that has at x + f the value that the given one has at x."""
    back = contrary(f)
    return tuple([(plus(low, f), plus(high, f), shifted(polynomial, back)) for low, high, polynomial in curve])


def curve_stretched(curve, f):
    """The curve that has at f * x the value that the given one has at x."""
    if f[0] == 0:
        raise Unfit()
    back = over((1, 1), f)
    pieces = [(times(low, f), times(high, f), stretched(polynomial, back)) for low, high, polynomial in curve]
    if f[0] > 0:
        return tuple(pieces)
    return tuple([(low, high, polynomial) for high, low, polynomial in pieces[::-1]])


def cut_curve(curve, low, high):
    """The curve that is the given one between low and high, and 0 elsewhere."""
    found = []
    for begin, end, polynomial in curve:
        begin, end = greater_of(begin, low), lesser_of(end, high)
        if order(begin, end) < 0:
            found.append((begin, end, polynomial))
    return tuple(found)


def whole(curve):
    """The integral of a curve over all x."""
    total = (0, 1)
    for low, high, polynomial in curve:
        heap = heap_of(polynomial)
        total = plus(total, less(at(heap, high), at(heap, low)))
    return total


def from_to(curve, low, high):
    """The integral of a curve from low to high."""
    if order(low, high) > 0:
        raise Unfit()
    return whole(cut_curve(curve, low, high))


def below_at(curve):
    """Any fraction, no knot of the curve, at which the curve is below 0, or None."""
    for low, high, polynomial in curve:
        place = place_below(polynomial, low, high)
        if place is not None:
            return place
    return None
