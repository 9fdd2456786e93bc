"""Fractions: pairs (top, bottom) without a common divisor, the bottom at least 1."""

from math import gcd

from unsureworks.errors import BadText, NoQuotient

# Python refuses to turn very long integers into figures, or back, at once: both is done in blocks of figures.
BLOCK = 64
BLOCK_WORTH = 10 ** 64


def is_fraction(value):
    """Whether value, any value, is a fraction."""
    if not isinstance(value, tuple) or len(value) != 2:
        return False
    top, bottom = value
    return is_integer(top) and is_integer(bottom) and bottom > 0 and gcd(top, bottom) == 1


def is_integer(value):
    """Whether value, any value, is an integer; True and False are none."""
    return isinstance(value, int) and not isinstance(value, bool)


def reduced(top, bottom):
    """The fraction that top divided by bottom is; bottom is above 0."""
    common = gcd(top, bottom)
    return top // common, bottom // common


def plus(f, g):
    """The sum of two fractions."""
    return reduced(f[0] * g[1] + g[0] * f[1], f[1] * g[1])


def less(f, g):
    """The fraction f less the fraction g."""
    return reduced(f[0] * g[1] - g[0] * f[1], f[1] * g[1])


def times(f, g):
    """The product of two fractions."""
    return reduced(f[0] * g[0], f[1] * g[1])


def over(f, g):
    """The fraction f divided by the fraction g."""
    if g[0] == 0:
        raise NoQuotient()
    if g[0] < 0:
        return reduced(-f[0] * g[1], f[1] * -g[0])
    return reduced(f[0] * g[1], f[1] * g[0])


def order(f, g):
    """-1 if f is below g, 0 if they are equal, 1 if f is above g."""
    left, right = f[0] * g[1], g[0] * f[1]
    if left < right:
        return -1
    if left > right:
        return 1
    return 0


def contrary(f):
    """The fraction that is 0 together with f."""
    return -f[0], f[1]


def lesser_of(f, g):
    """The lesser one of two fractions."""
    return f if order(f, g) < 0 else g


def greater_of(f, g):
    """The greater one of two fractions."""
    return f if order(f, g) > 0 else g


def merged(one, other):
    """The ascending list of all fractions that stand in one of two ascending lists, each once."""
    found = []
    first, second = 0, 0
    while first < len(one) and second < len(other):
        sign = order(one[first], other[second])
        found.append(one[first] if sign < 0 else other[second])
        if sign <= 0:
            first += 1
        if sign >= 0:
            second += 1
    return found + list(one[first:]) + list(other[second:])


def ascending(fractions):
    """The ascending list of some fractions, each once."""
    rows = [[f] for f in fractions]
    while len(rows) > 1:
        pairs = [merged(one, other) for one, other in zip(rows[::2], rows[1::2])]
        rows = pairs + rows[2 * len(pairs):]
    return rows[0] if rows else []


def fraction_text(f):
    """The text of a fraction."""
    top, bottom = f
    sign = "-" if top < 0 else ""
    behind = "" if bottom == 1 else "/" + _figures_of(bottom)
    return sign + _figures_of(abs(top)) + behind


def read_fraction(value):
    """The fraction whose text value, any value, is."""
    found = fraction_in(value) if isinstance(value, str) else None
    if found is None:
        raise BadText(0)
    return found


def fraction_in(text):
    """The fraction whose text a string is, or None if it is that of none."""
    below = text.startswith("-")
    head, stroke, tail = text.removeprefix("-").partition("/")
    if not is_count_text(head) or (below and head == "0"):
        return None
    top = _count_of(head)
    found = (-top if below else top), 1
    if stroke == "":
        return found
    if not is_count_text(tail) or tail == "1":
        return None
    found = found[0], _count_of(tail)
    return found if is_fraction(found) else None


def is_count_text(text):
    """Whether a string is an integer from 0 on in figures, without a figure 0 ahead of others."""
    return text.isascii() and text.isdigit() and (text == "0" or not text.startswith("0"))


def _figures_of(count):
    """The figures of an integer from 0 on."""
    blocks = []
    while count >= BLOCK_WORTH:
        count, block = divmod(count, BLOCK_WORTH)
        blocks.append(str(block).zfill(BLOCK))
    blocks.append(str(count))
    return "".join(blocks[::-1])


def _count_of(figures):
    """The integer that figures tell."""
    first = len(figures) % BLOCK
    count = int("0" + figures[:first])
    for begin in range(first, len(figures), BLOCK):
        count = count * BLOCK_WORTH + int(figures[begin:begin + BLOCK])
    return count
