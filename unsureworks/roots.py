"""Numbers: fractions, and roots of polynomials that are no fractions."""

from unsureworks.errors import Unfit
from unsureworks.numbers import greater_of, is_fraction, less, lesser_of, order, over, plus
from unsureworks.places import places_from, single_row
from unsureworks.polynomials import added, at, constant_of, is_polynomial
from unsureworks.rows import common_row, polynomial_of, row_sign
from unsureworks.spreads import heaped


def number_error(value):
    """None if value, any value, is a number; otherwise what is wrong with it."""
    if is_fraction(value):
        return None
    if not _has_form_of_root(value):
        return "form"
    _, polynomial, low, high = value
    if order(low, high) >= 0:
        return "stretch"
    if at(polynomial, low)[0] == 0 or at(polynomial, high)[0] == 0:
        return "end"
    fractions, _, stretches = places_from(polynomial, low, high)
    if len(fractions) + len(stretches) != 1:
        return "places"
    return "fraction" if fractions else None


def _has_form_of_root(value):
    """Whether value, any value, has the items that a root has, whatever they mean."""
    if not isinstance(value, tuple) or len(value) != 4 or value[0] != "root":
        return False
    _, polynomial, low, high = value
    return is_polynomial(polynomial) and polynomial != () and is_fraction(low) and is_fraction(high)


def order_of(one, other):
    """-1 if the place of one number is less than that of the other, 0 if both are alike, 1 otherwise."""
    if len(one) == 2 and len(other) == 2:
        return order(one, other)
    if len(other) == 2:
        return _order_to_fraction(_single_root(one), other)
    if len(one) == 2:
        return -_order_to_fraction(_single_root(other), one)
    return _order_of_roots(_single_root(one), _single_root(other))


def _single_root(root):
    """A triple that tells a root: a row that is 0 nowhere several times over, and the root's low and high."""
    _, polynomial, low, high = root
    return single_row(polynomial), low, high


def _order_to_fraction(root, f):
    """-1 if a root, told as _single_root does, is below a fraction, 1 if it is above it."""
    row, low, high = root
    if order(f, low) <= 0:
        return 1
    if order(f, high) >= 0:
        return -1
    return 1 if row_sign(row, low) == row_sign(row, f) else -1


def _order_of_roots(one, other):
    """-1, 0 or 1: how two roots, told as _single_root does, stand to one another."""
    low, high = greater_of(one[1], other[1]), lesser_of(one[2], other[2])
    if order(low, high) >= 0:
        return -1 if order(one[2], other[1]) <= 0 else 1
    # Where both rows are 0 between low and high there is the only place of each root.
    common = common_row(one[0], other[0])
    if row_sign(common, low) != row_sign(common, high):
        return 0
    while True:
        middle = over(plus(low, high), (2, 1))
        first, second = _order_to_fraction(one, middle), _order_to_fraction(other, middle)
        if first != second:
            return first
        if first < 0:
            high = middle
        else:
            low = middle


def near(number, width):
    """Any fraction that is less than width off a number's place."""
    if len(number) == 2:
        return number
    root = _single_root(number)
    _, low, high = root
    while order(less(high, low), width) > 0:
        middle = over(plus(low, high), (2, 1))
        if _order_to_fraction(root, middle) < 0:
            high = middle
        else:
            low = middle
    return low


def roots_of(polynomial, low, high):
    """The ascending tuple of numbers for all places from low to high at which a polynomial other than () is 0."""
    fractions, row, stretches = places_from(polynomial, low, high)
    found = []
    for begin, end in stretches:
        ahead = [f for f in fractions if _order_to_fraction((row, begin, end), f) > 0]
        found += ahead + [("root", polynomial_of(row, 1), begin, end)]
        fractions = fractions[len(ahead):]
    return tuple(found + fractions)


def quantile(spread, q):
    """The least place at which a spread has heaped up q or more; there is one, as 1 is heaped up in the end."""
    if q[0] <= 0 or order(q, (1, 1)) > 0:
        raise Unfit()
    low, polynomial = (0, 1), ()
    for knot, worth, further in heaped(spread)[1]:
        if order(at(polynomial, knot), q) > 0:
            # It rises from below q at low to above q at the knot, so it is q just once between them.
            return roots_of(added(polynomial, constant_of((-q[0], q[1]))), low, knot)[0]
        if order(worth, q) >= 0:
            return knot
        low, polynomial = knot, further
