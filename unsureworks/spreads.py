"""Spreads: pairs (lumps, curve) that tell how likely a number lies where."""

from unsureworks.curves import below_at, curve_error, from_to, whole
from unsureworks.errors import Unfit
from unsureworks.numbers import contrary, greater_of, is_fraction, less, lesser_of, order, over, plus, times
from unsureworks.stepcurves import heap_step


def spread_error(value):
    """None if value, any value, is a spread; otherwise what is wrong with it."""
    if not isinstance(value, tuple) or len(value) != 2 or not isinstance(value[0], tuple):
        return "form"
    lumps, curve = value
    for place, item in enumerate(lumps):
        if not _is_lump(item) or (place > 0 and order(lumps[place - 1][0], item[0]) >= 0):
            return ("lump", place)
    error = curve_error(curve)
    if error is not None:
        return ("curve", error)
    dip = below_at(curve)
    if dip is not None:
        return ("below", dip)
    total = moment(value, 0)
    if total != (1, 1):
        return ("whole", total)
    return None


def _is_lump(value):
    """Whether value, any value, is a pair of two fractions, the second one above 0."""
    if not isinstance(value, tuple) or len(value) != 2:
        return False
    return is_fraction(value[0]) and is_fraction(value[1]) and value[1][0] > 0


def even(low, high):
    """The spread of a number that lies between low and high, anywhere alike."""
    if order(low, high) >= 0:
        raise Unfit()
    return (), ((low, high, (over((1, 1), less(high, low)),)),)


def lump(place):
    """The spread of a number that is surely at a place."""
    return ((place, (1, 1)),), ()


def tent(low, top, high):
    """The spread whose curve is a line from 0 at low up to one at top, and a line from there down to 0 at high."""
    if order(low, high) >= 0 or order(top, low) < 0 or order(top, high) > 0:
        raise Unfit()
    height = over((2, 1), less(high, low))
    pieces = []
    if top != low:
        pieces.append((low, top, _line_from(low, over(height, less(top, low)))))
    if top != high:
        pieces.append((top, high, _line_from(high, over(height, less(top, high)))))
    return (), tuple(pieces)


def _line_from(place, slope):
    """The polynomial of the line with a slope, other than 0, that is 0 at a place."""
    return contrary(times(place, slope)), slope


def heaped(spread):
    """The step curve of the chance that a spread's number is at most t."""
    lumps, curve = spread
    return heap_step(curve, lumps)


def chance_of(spread, low, high, low_in, high_in):
    """The chance that a spread's number lies from low to high; whether each of these is in is told, too."""
    lumps, curve = spread
    total = from_to(curve, low, high)
    for _, weight in lumps_within(lumps, low, high, low_in, high_in):
        total = plus(total, weight)
    return total


def lumps_within(lumps, low, high, low_in, high_in):
    """The list of those lumps that lie from low to high; whether each of these is in is told, too."""
    found = []
    for place, weight in lumps:
        above, below = order(low, place), order(place, high)
        if (above < 0 or (above == 0 and low_in)) and (below < 0 or (below == 0 and high_in)):
            found.append((place, weight))
    return found


def mean(spread):
    """The mean of a spread's number."""
    return moment(spread, 1)


def moment(spread, k):
    """The mean of the power k of a spread's number."""
    lumps, curve = spread
    total = whole(tuple([(low, high, ((0, 1),) * k + polynomial) for low, high, polynomial in curve]))
    for place, weight in lumps:
        share = weight
        for _ in range(k):
            share = times(share, place)
        total = plus(total, share)
    return total


def ends(spread):
    """The pair of the least and of the greatest of all lumps' places and all knots of a spread."""
    lumps, curve = spread
    if not lumps:
        return curve[0][0], curve[-1][1]
    if not curve:
        return lumps[0][0], lumps[-1][0]
    return lesser_of(lumps[0][0], curve[0][0]), greater_of(lumps[-1][0], curve[-1][1])
