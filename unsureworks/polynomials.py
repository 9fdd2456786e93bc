"""Polynomials: tuples of fractions, the factor of power 0 first, the last one not 0."""

from unsureworks.numbers import is_fraction, plus, reduced, times
from unsureworks.rows import polynomial_of, powers_of, row_of, row_shifted, rows_multiplied


def is_polynomial(value):
    """Whether value, any value, is a polynomial."""
    if not isinstance(value, tuple) or not all([is_fraction(factor) for factor in value]):
        return False
    return value == () or value[-1][0] != 0


def constant_of(f):
    """The polynomial that is the fraction f everywhere."""
    return () if f[0] == 0 else (f,)


def trimmed(factors):
    """The polynomial with these factors, of which the last ones may be 0."""
    length = len(factors)
    while length > 0 and factors[length - 1][0] == 0:
        length -= 1
    return tuple(factors[:length])


def at(p, f):
    """What the polynomial p is at the fraction f."""
    row, under = row_of(p)
    top, bottom = f
    worth, power = 0, 1
    for factor in row[::-1]:
        worth = worth * top + factor * power
        power *= bottom
    return reduced(worth * bottom, under * power)


def added(p, q):
    """The sum of two polynomials."""
    brief, wide = (p, q) if len(p) < len(q) else (q, p)
    sums = [plus(f, g) for f, g in zip(brief, wide)]
    return trimmed(sums + list(wide[len(brief):]))


def multiplied(p, q):
    """The product of two polynomials."""
    if p == () or q == ():
        return ()
    one, bottom = row_of(p)
    other, further = row_of(q)
    return polynomial_of(rows_multiplied(one, other), bottom * further)


def scaled(p, f):
    """The product of the polynomial p and the fraction f."""
    return trimmed([times(factor, f) for factor in p])


def slope_of(p):
    """The derivative of a polynomial."""
    return tuple([reduced(power * top, bottom) for power, (top, bottom) in enumerate(p)][1:])


def heap_of(p):
    """The polynomial whose derivative is p and which is 0 at 0."""
    if p == ():
        return ()
    return ((0, 1),) + tuple([reduced(top, bottom * (power + 1)) for power, (top, bottom) in enumerate(p)])


def shifted(p, f):
    """The polynomial that is at each x what p is at x + f."""
    if p == ():
        return ()
    row, under = row_of(p)
    top, bottom = f
    # With z = bottom * x, x + f is (z + top) / bottom: once all is multiplied, the shift is one by an integer.
    powers = powers_of(bottom, len(row))
    widened = [factor * power for factor, power in zip(row, powers[::-1])]
    moved = row_shifted(widened, top)
    return polynomial_of([factor * power for factor, power in zip(moved, powers)], under * powers[-1])


def stretched(p, f):
    """The polynomial that is at each x what p is at f * x."""
    factors = []
    power = (1, 1)
    for factor in p:
        factors.append(times(factor, power))
        power = times(power, f)
    return trimmed(factors)
