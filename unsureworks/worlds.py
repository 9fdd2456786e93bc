"""Worlds: tuples of spreads of independent draws."""

from unsureworks.bounds import MAX_BOXES, MAX_DRAWS, MAX_GREAT
from unsureworks.numbers import is_fraction, order
from unsureworks.spreads import spread_error

MOST_LUMPS = 2
MOST_PIECES = 3
MOST_DEGREE = 2


def world_error(value):
    """None if value, any value, is a world; otherwise what is wrong with it."""
    if not isinstance(value, tuple) or value == () or len(value) > MAX_DRAWS:
        return "form"
    for place, draw in enumerate(value):
        word = _draw_error(draw)
        if word is not None:
            return ("draw", place, word)
    boxes = 1
    for lumps, curve in value:
        boxes *= len(lumps) + len(curve)
    return "boxes" if boxes > MAX_BOXES else None


def _draw_error(value):
    """The first word that tells why value, any value, is no spread of a draw, or None."""
    if spread_error(value) is not None:
        return "spread"
    lumps, curve = value
    if len(lumps) > MOST_LUMPS:
        return "lumps"
    if len(curve) > MOST_PIECES:
        return "pieces"
    if max([len(polynomial) for _, _, polynomial in curve], default=0) > MOST_DEGREE + 1:
        return "degree"
    return "great" if max([max(abs(top), bottom) for top, bottom in _fractions_in(value)]) >= MAX_GREAT else None


def _fractions_in(spread):
    """The list of all fractions in a spread."""
    lumps, curve = spread
    found = [f for lump in lumps for f in lump]
    for low, high, polynomial in curve:
        found += [low, high] + list(polynomial)
    return found


def is_numbers(world, value):
    """Whether value, any value, is numbers of a world."""
    if not isinstance(value, tuple) or len(value) != len(world):
        return False
    return all([_is_number_of(draw, number) for draw, number in zip(world, value)])


def _is_number_of(draw, value):
    """Whether value, any value, is the place of a lump of a draw, or lies between the ends of a piece."""
    if not is_fraction(value):
        return False
    lumps, curve = draw
    if value in [place for place, _ in lumps]:
        return True
    return any([order(low, value) < 0 and order(value, high) < 0 for low, high, _ in curve])
