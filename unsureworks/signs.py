"""Sign papers: what shows that a polynomial is nowhere below 0 from one fraction to another one."""

from unsureworks.dips import dip_or_paper
from unsureworks.errors import BelowAt
from unsureworks.numbers import is_fraction, less, order
from unsureworks.polynomials import is_polynomial, multiplied
from unsureworks.rows import end_row, row_of, row_squeezed


def sign_paper(polynomial, low, high):
    """Any sign paper of a polynomial from low to high.

    If there is none, the place of BelowAt is between low and high, other than these.
    """
    dip, paper = dip_or_paper(polynomial, low, high)
    if dip is not None:
        raise BelowAt(dip)
    return paper


def sign_holds(polynomial, low, high, value):
    """Whether value, any value, is a sign paper of a polynomial from low to high."""
    if not isinstance(value, tuple) or value == () or not all([_is_item(item) for item in value]):
        return False
    if value[0][0] != low or value[-1][1] != high:
        return False
    for ahead, item in zip(value, value[1:]):
        if ahead[1] != item[0]:
            return False
    made_of = None
    for begin, end, s, r in value:
        # Most papers have the same factors in all items.
        if made_of != (s, r) and not _makes(s, r, polynomial):
            return False
        made_of = (s, r)
        if r != () and min(end_row(row_squeezed(row_of(r)[0], begin, less(end, begin)))) < 0:
            return False
    return True


def _is_item(value):
    """Whether value, any value, has the form of an item of a sign paper, and begins below its end."""
    if not isinstance(value, tuple) or len(value) != 4:
        return False
    begin, end, s, r = value
    if not is_fraction(begin) or not is_fraction(end) or order(begin, end) >= 0:
        return False
    return is_polynomial(s) and is_polynomial(r)


def _makes(s, r, polynomial):
    """Whether s * s * r is a polynomial."""
    if s == () or r == ():
        return polynomial == ()
    if 2 * len(s) + len(r) - 2 != len(polynomial):
        return False
    return multiplied(multiplied(s, s), r) == polynomial
