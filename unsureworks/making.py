"""Spreads made of the spreads of independent numbers."""

from math import factorial

from unsureworks.bounds import MAX_DEGREE, MAX_OFTEN, MAX_PAIRS, MAX_STEPS
from unsureworks.curves import (curve_scaled, curve_shifted, curve_stretched, curves_added, cut_curve, from_to, tidied)
from unsureworks.errors import NoChance, TooMany, Unfit
from unsureworks.numbers import ascending, contrary, greater_of, less, lesser_of, order, over, plus, times
from unsureworks.polynomials import added, at, multiplied, shifted, slope_of, trimmed
from unsureworks.rows import polynomial_of, row_of, rows_added, rows_multiplied
from unsureworks.spreads import chance_of, ends, heaped, lump, lumps_within
from unsureworks.stepcurves import parts_at


def moved(spread, f):
    """The spread of a number and f together."""
    lumps, curve = spread
    return tuple([(plus(place, f), weight) for place, weight in lumps]), curve_shifted(curve, f)


def grown(spread, f):
    """The spread of f times a number."""
    if f[0] == 0:
        return lump(f)
    lumps, curve = spread
    products = [(times(place, f), weight) for place, weight in lumps]
    height = over((1, 1), (abs(f[0]), f[1]))
    return lumps_of(products), curve_scaled(curve_stretched(curve, f), height)


def apart(spread, place):
    """The spread of the distance of a number from a place."""
    lumps, curve = moved(spread, contrary(place))
    distances = [((abs(top), bottom), weight) for (top, bottom), weight in lumps]
    if curve == ():
        return lumps_of(distances), ()
    least, greatest = lesser_of(curve[0][0], (0, 1)), greater_of(curve[-1][1], (0, 1))
    behind = curve_stretched(cut_curve(curve, least, (0, 1)), (-1, 1))
    return lumps_of(distances), curves_added(behind, cut_curve(curve, (0, 1), greatest))


def lumps_of(pairs):
    """The lumps made of pairs of a place and a weight: what is at one place is one lump, what weighs 0 is none."""
    weights = {}
    for place, weight in pairs:
        weights[place] = plus(weights.get(place, (0, 1)), weight)
    return tuple([(place, weights[place]) for place in ascending(list(weights)) if weights[place][0] != 0])


def _many_items(spread):
    """How many items a spread has."""
    return len(spread[0]) + len(spread[1])


def _degree(spread):
    """The degree of a spread, -1 if it has no piece."""
    return max([len(polynomial) - 1 for _, _, polynomial in spread[1]], default=-1)


def joined(one, other):
    """The spread of the sum of two numbers."""
    if _many_items(one) * _many_items(other) > MAX_PAIRS:
        raise TooMany(MAX_PAIRS)
    if _degree(one) + _degree(other) + 1 > MAX_DEGREE:
        raise TooMany(MAX_DEGREE)
    return _spread_of_leaps(_leaps_joined(_leaps_of(one), _leaps_of(other)))


def joined_often(spread, n):
    """The spread of the sum of n numbers, each of which has the spread."""
    if n * _many_items(spread) > MAX_OFTEN:
        raise TooMany(MAX_OFTEN)
    if n * (_degree(spread) + 1) - 1 > MAX_DEGREE:
        raise TooMany(MAX_DEGREE)
    leaps = _leaps_of(spread)
    total = leaps
    for _ in range(n - 1):
        total = _leaps_joined(total, leaps)
    return _spread_of_leaps(total)


def _leaps_of(spread):
    """The leaps of a spread: a dict of a polynomial for each place of a lump and each knot.

    Its factor of power 0 is the weight of the lump there. Behind the place the curve's polynomial is another one than
    ahead of it: the factor of power k + 1 is k! times that of (x - place) ** k in their difference.
    """
    lumps, curve = spread
    leaps = {place: (weight,) for place, weight in lumps}
    for low, high, polynomial in curve:
        for place, sign in ((low, 1), (high, -1)):
            rising = shifted(polynomial, place)
            factors = [times(f, (sign * factorial(power), 1)) for power, f in enumerate(rising)]
            leaps[place] = added(leaps.get(place, ()), ((0, 1),) + tuple(factors))
    return leaps


def _leaps_joined(one, other):
    """The leaps of the sum of two numbers: each of one times each of the other, at both places together.

    (What rises as x ** i and as x ** k, each divided by the factorial of its power, joins to what rises as
    x ** (i + k + 1), divided by the factorial of that: so powers of leaps are added.)
    """
    leaps = {}
    for place, leap in one.items():
        for further, by in other.items():
            both = plus(place, further)
            leaps[both] = added(leaps.get(both, ()), multiplied(leap, by))
    return leaps


def _spread_of_leaps(leaps):
    """The spread that has these leaps."""
    places = ascending(list(leaps))
    lumps, pieces = [], []
    polynomial = ()
    for place, end in zip(places, places[1:] + places[-1:]):
        leap = leaps[place]
        if leap != () and leap[0][0] != 0:
            lumps.append((place, leap[0]))
        rising = [over(f, (factorial(power), 1)) for power, f in enumerate(leap[1:])]
        polynomial = added(polynomial, shifted(tuple(rising), contrary(place)))
        pieces.append((place, end, polynomial))
    return tuple(lumps), tidied(pieces)


def greater(one, other):
    """The spread of the greater one of two numbers."""
    return kth((one, other), 1)


def lesser(one, other):
    """The spread of the lesser one of two numbers."""
    return kth((one, other), 0)


def kth(spreads, k):
    """The spread of the number at the place k, counted from 0, if one number of each spread is put in order."""
    if sum([_degree(spread) + 1 for spread in spreads]) > MAX_DEGREE + 1:
        raise TooMany(MAX_DEGREE)
    steps = [heaped(spread) for spread in spreads]
    knots = ascending([item[0] for step in steps for item in step[1]])
    rows = [[polynomial for _, polynomial in parts_at(step, knots)] for step in steps]
    return _spread_heaped(knots, [_chance_of_many(column, k + 1) for column in zip(*rows)])


def _chance_of_many(chances, many):
    """The chance that so many or more of independent events come about, all chances being polynomials.

    All is reckoned with rows of one bottom, and divided by it in the end.
    """
    exactly, enough, bottom = [[1]] + [[]] * (many - 1), [], 1
    for chance in chances:
        row, under = row_of(chance)
        missed = rows_added([under], [-factor for factor in row])
        enough = rows_added([factor * under for factor in enough], rows_multiplied(exactly[-1], row))
        ahead = [[]] + exactly
        exactly = [rows_added(rows_multiplied(p, missed), rows_multiplied(q, row)) for p, q in zip(exactly, ahead)]
        bottom *= under
    return trimmed(polynomial_of(enough, bottom))


def _spread_heaped(knots, polynomials):
    """The spread that has from each knot on, up to the next one, the polynomial heaped up that stands at its place."""
    lumps, pieces = [], []
    ahead = ()
    for knot, end, polynomial in zip(knots, knots[1:] + knots[-1:], polynomials):
        lumps.append((knot, less(at(polynomial, knot), at(ahead, knot))))
        pieces.append((knot, end, slope_of(polynomial)))
        ahead = polynomial
    return lumps_of(lumps), tidied(pieces)


def mixed(rows):
    """The spread of a number that has each of some spreads with the chance of its share."""
    total = (0, 1)
    for share, _ in rows:
        if share[0] <= 0:
            raise Unfit()
        total = plus(total, share)
    if total != (1, 1):
        raise Unfit()
    lumps, curve = [], ()
    for share, spread in rows:
        lumps += [(place, times(weight, share)) for place, weight in spread[0]]
        curve = curves_added(curve, curve_scaled(spread[1], share))
    return lumps_of(lumps), curve


def held(spread, low, high, low_in, high_in):
    """The spread of a number, given that it lies from low to high; whether each of these is in is told, too."""
    chance = chance_of(spread, low, high, low_in, high_in)
    if chance[0] == 0:
        raise NoChance()
    lumps, curve = spread
    share = over((1, 1), chance)
    within = [(place, times(weight, share)) for place, weight in lumps_within(lumps, low, high, low_in, high_in)]
    return tuple(within), curve_scaled(cut_curve(curve, low, high), share)


def rounded(spread, width):
    """The spread of the greatest multiple of width that is not above a number."""
    if width[0] <= 0:
        raise Unfit()
    least, greatest = ends(spread)
    if order(less(greatest, least), times(width, (MAX_STEPS, 1))) > 0:
        raise TooMany(MAX_STEPS)
    lumps, curve = spread
    found = [(times((_count_of(place, width), 1), width), weight) for place, weight in lumps]
    for count in range(_count_of(least, width), _count_of(greatest, width) + 1):
        begin = times((count, 1), width)
        found.append((begin, from_to(curve, begin, plus(begin, width))))
    return lumps_of(found), ()


def _count_of(f, width):
    """The greatest integer that, times width, is not above f."""
    top, bottom = over(f, width)
    return top // bottom
