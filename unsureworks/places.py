"""Places: where a polynomial is 0."""

from unsureworks.numbers import ascending, less, order, over, plus, reduced
from unsureworks.rows import (common_row, end_row, plain_row, row_at, row_divided, row_halves, row_of, row_slope,
                              row_squeezed)


def single_row(p):
    """A row that is 0 at the same places as a polynomial other than (), and nowhere several times over."""
    row = plain_row(row_of(p)[0])
    if len(row) == 1:
        return row
    return row_divided(row, common_row(row, plain_row(row_slope(row))))


def places_from(p, low, high):
    """A triple that tells all places from low to high at which a polynomial other than () is 0.

    It has the ascending list of those that are fractions, a row that is 0 at no fraction, but at all other places,
    and the list of ascending stretches between low and high in each of which it is 0 once.
    """
    row = single_row(p)
    fractions = _fraction_places(row)
    for top, bottom in fractions:
        row = row_divided(row, [-top, bottom])
    within = [f for f in fractions if order(low, f) <= 0 and order(f, high) <= 0]
    stretches = _lone_stretches(row, low, high) if order(low, high) < 0 else []
    return ascending(within), row, stretches


def _lone_stretches(row, low, high):
    """The ascending list of stretches between low and high in each of which a row is 0 at just one place.

    The row is 0 at no fraction, and nowhere several times over. Where the factors of its end row change their sign
    once it is 0 once, and where they do not it is not; stretches with more changes are halved.
    """
    width = less(high, low)
    found = []
    waiting = [(row_squeezed(row, low, width), low, high)]
    while waiting:
        part, begin, end = waiting.pop()
        changes = _sign_changes(end_row(part))
        if changes == 1:
            found.append((begin, end))
        elif changes > 1:
            middle = over(plus(begin, end), (2, 1))
            left, right = row_halves(part)
            waiting.append((right, middle, end))
            waiting.append((left, begin, middle))
    return found


def _sign_changes(factors):
    """How often the sign changes from one factor to the next one, those that are 0 left out."""
    above = [factor > 0 for factor in factors if factor != 0]
    return len([place for place in range(1, len(above)) if above[place] != above[place - 1]])


def _fraction_places(row):
    """The list of all fractions at which a row that is 0 nowhere several times over is 0.

    Such a fraction is, up to multiples of a prime, one of the few spots at which the row is such a multiple. Each spot
    is taken further to a great power of the prime; then there is just one fraction that it can be. (Its bottom divides
    the last factor, so times this factor it is an integer, and no greater than all factors allow.)
    """
    if len(row) == 1:
        return []
    last = row[-1]
    bound = 2 * (abs(last) + max([abs(factor) for factor in row]))
    prime, spots = _prime_and_spots(row)
    found = []
    for spot in spots:
        spot, modulus = _lifted(row, spot, prime, bound)
        top = last * spot % modulus
        if 2 * top > modulus:
            top -= modulus
        place = reduced(top, last) if last > 0 else reduced(-top, -last)
        if row_divided(row, [-place[0], place[1]]) is not None:
            found.append(place)
    return found


def _prime_and_spots(row):
    """A prime and the list of all integers below it at which a row is a multiple of it.

    The prime does not divide the last factor, and the row's slope is at no such integer a multiple of it.
    """
    slope = row_slope(row)
    prime = 2
    while True:
        prime = _prime_behind(prime)
        spots = [spot for spot in range(prime) if _row_at_up_to(row, spot, prime) == 0]
        if row[-1] % prime != 0 and all([_row_at_up_to(slope, spot, prime) != 0 for spot in spots]):
            return prime, spots


def _prime_behind(count):
    """The least prime above an integer from 2 on."""
    count += 1
    while not all([count % by != 0 for by in range(2, count)]):
        count += 1
    return count


def _row_at_up_to(row, place, modulus):
    """What a row is at an integer, up to multiples of modulus: from 0 on and below it."""
    worth = 0
    for factor in row[::-1]:
        worth = (worth * place + factor) % modulus
    return worth


def _lifted(row, spot, prime, bound):
    """The pair of an integer and of a power of the prime above bound, of which the row is a multiple there.

    The integer is spot, up to multiples of the prime.
    """
    slope = row_slope(row)
    steep = row_at(slope, spot) % prime
    back = [by for by in range(prime) if by * steep % prime == 1][0]
    modulus = prime
    while modulus <= bound:
        modulus *= modulus
        spot = (spot - _row_at_up_to(row, spot, modulus) * back) % modulus
        back = back * (2 - _row_at_up_to(slope, spot, modulus) * back) % modulus
    return spot, modulus
