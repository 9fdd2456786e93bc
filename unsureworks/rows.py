"""Rows: lists of integers that are the factors of a polynomial, that of power 0 first, the last one not 0.

What is reckoned with rows needs no common divisors on the way.
"""

from math import gcd, isqrt, lcm

from unsureworks.numbers import reduced


def row_of(p):
    """The pair of the row of a polynomial, all of it over one bottom, and of this bottom."""
    bottom = 1
    for factor in p:
        bottom = lcm(bottom, factor[1])
    return [top * (bottom // under) for top, under in p], bottom


def polynomial_of(row, bottom):
    """The polynomial that has the factors of a row, each divided by bottom."""
    return tuple([reduced(top, bottom) for top in row])


def powers_of(base, many):
    """The list of the powers of an integer, as many as told, that of power 0 first."""
    powers = []
    power = 1
    for _ in range(many):
        powers.append(power)
        power *= base
    return powers


def row_at(row, place):
    """What a row is at an integer."""
    worth = 0
    for factor in row[::-1]:
        worth = worth * place + factor
    return worth


def row_sign(row, place):
    """-1, 0 or 1: whether a row is below 0, 0 or above 0 at a fraction."""
    top, bottom = place
    worth, power = 0, 1
    for factor in row[::-1]:
        worth = worth * top + factor * power
        power *= bottom
    return (worth > 0) - (worth < 0)


def row_squeezed(row, low, width):
    """A row that has at each x the sign that the given one has at low + width * x; width is above 0."""
    top, bottom = low
    further, under = width
    # With a bottom common to both, low + width * x is (top + further * x) / bottom.
    top, further, bottom = top * under, further * bottom, bottom * under
    powers = powers_of(bottom, len(row))
    moved = row_shifted([factor * power for factor, power in zip(row, powers[::-1])], top)
    return plain_row([factor * power for factor, power in zip(moved, powers_of(further, len(row)))])


def row_halves(row):
    """The pair of rows that have from 0 to 1 the signs that the given one has from 0 to 1/2, and from 1/2 to 1."""
    left = [factor << (len(row) - 1 - power) for power, factor in enumerate(row)]
    return left, row_shifted(left, 1)


def end_row(row):
    """The factors, but for positive numbers, that make a row of the distances from 0 and from 1.

    With n the degree of the row, it is the sum of factors times x ** i * (1 - x) ** (n - i), the last one first.
    """
    return row_shifted(row[::-1], 1)


def row_shifted(row, by):
    """The row that is at each x what the given one is at x + by, an integer."""
    found = list(row)
    for done in range(len(row) - 1):
        for place in range(len(row) - 2, done - 1, -1):
            found[place] += by * found[place + 1]
    return found


def rows_added(one, other):
    """The sum of two rows; it may be none, as its last factors may be 0."""
    brief, wide = (one, other) if len(one) < len(other) else (other, one)
    return [f + g for f, g in zip(brief, wide)] + wide[len(brief):]


def rows_multiplied(one, other):
    """The product of two rows, or of two such sums; [] if one of them is []."""
    if one == [] or other == []:
        return []
    found = [0] * (len(one) + len(other) - 1)
    for place, factor in enumerate(one):
        for further, by in enumerate(other):
            found[place + further] += factor * by
    return found


def row_divided(row, by):
    """The row that makes the given one when it is multiplied with by, or None if there is none."""
    left = list(row)
    found = [0] * (len(row) - len(by) + 1)
    for place in range(len(found) - 1, -1, -1):
        found[place], rest = divmod(left[place + len(by) - 1], by[-1])
        if rest != 0:
            # Going on would come to None as well, but over ever greater numbers.
            return None
        for further, factor in enumerate(by):
            left[place + further] -= found[place] * factor
    return None if any(left) else found


def row_slope(row):
    """The derivative of a row."""
    return [power * factor for power, factor in enumerate(row)][1:]


def plain_row(row):
    """A row that is not empty, divided by the greatest common divisor of its factors."""
    common = 0
    for factor in row:
        common = gcd(common, factor)
    return [factor // common for factor in row]


def common_row(one, other):
    """The greatest common divisor of two plain rows that are not empty, as a plain row.

    What both rows come to at a great spot has a common divisor; its figures, with the spot as their base, are taken as
    factors. If the row that they make, made plain, divides both rows, it is the greatest that does: a greater one
    would be so many times greater at the spot, which is more than twice as far off as all places where one is 0,
    that the figures could not have had it as a common divisor. And if the spot is great enough it does divide both.
    """
    spot = 2 * max([abs(factor) for factor in one]) + 2
    while True:
        found = plain_row(_row_in_base(gcd(row_at(one, spot), row_at(other, spot)), spot))
        if row_divided(one, found) is not None and row_divided(other, found) is not None:
            return found
        spot *= isqrt(spot) + 1


def _row_in_base(worth, base):
    """The row with factors from above -base / 2 to base / 2 that is worth so much at base."""
    row = []
    while worth != 0:
        worth, figure = divmod(worth, base)
        if 2 * figure > base:
            figure -= base
            worth += 1
        row.append(figure)
    return row


def squares_apart(row):
    """The pair (root, rest) of rows: row is root * root * rest, and no place is a double one of rest.

    Factors are taken out by how often they stand in the row: first those that stand there once, and so on.
    """
    root = [1]
    plain = plain_row(row)
    if len(plain) > 1:
        more = common_row(plain, plain_row(row_slope(plain)))
        left = row_divided(plain, more)
        often = 1
        while len(more) > 1:
            still = common_row(left, more)
            root = _multiplied_often(root, row_divided(left, still), often // 2)
            left, more = still, row_divided(more, still)
            often += 1
        root = _multiplied_often(root, left, often // 2)
    return root, row_divided(row, rows_multiplied(root, root))


def _multiplied_often(row, by, often):
    """The product of a row and of so many times another one."""
    for _ in range(often):
        row = rows_multiplied(row, by)
    return row
