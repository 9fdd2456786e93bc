"""The texts of spreads: there, and back."""

from unsureworks.bounds import MAX_DEGREE
from unsureworks.errors import BadSpread, BadText
from unsureworks.numbers import contrary, fraction_in, fraction_text, is_count_text
from unsureworks.spreads import spread_error


def spread_text(spread):
    """The text of a spread: its items, parted by semicolons and blanks."""
    lumps, curve = spread
    items = [f"{fraction_text(weight)} @ {fraction_text(place)}" for place, weight in lumps]
    for low, high, polynomial in curve:
        items.append(f"{fraction_text(low)}..{fraction_text(high)} {_polynomial_text(polynomial)}")
    return "; ".join(items)


def _polynomial_text(polynomial):
    """The text of a polynomial other than ()."""
    text = ""
    for power, factor in enumerate(polynomial):
        if factor[0] == 0:
            continue
        if text == "":
            text = fraction_text(factor)
        elif factor[0] < 0:
            text += " - " + fraction_text(contrary(factor))
        else:
            text += " + " + fraction_text(factor)
        text += _power_text(power)
    return text


def _power_text(power):
    """What stands behind the fraction of a term."""
    if power == 0:
        return ""
    return " x" if power == 1 else f" x^{power}"


def read_spread(value):
    """The spread whose text value, any value, is."""
    if not isinstance(value, str):
        raise BadText(0)
    lumps, pieces = [], []
    for place, part in enumerate(value.split("; ")):
        lump_told, piece_told = _lump_in(part), _piece_in(part)
        if lump_told is not None and not pieces:
            lumps.append(lump_told)
        elif piece_told is not None:
            pieces.append(piece_told)
        else:
            raise BadText(place)
    spread = (tuple(lumps), tuple(pieces))
    error = spread_error(spread)
    if error is not None:
        raise BadSpread(error)
    return spread


def _lump_in(part):
    """The pair of a place and a weight whose item a string is, or None."""
    head, _, tail = part.partition(" @ ")
    weight, place = fraction_in(head), fraction_in(tail)
    if weight is None or place is None:
        return None
    return place, weight


def _piece_in(part):
    """The piece whose item a string is, or None; its low need not be below its high."""
    head, _, tail = part.partition(" ")
    low_text, _, high_text = head.partition("..")
    low, high = fraction_in(low_text), fraction_in(high_text)
    polynomial = _polynomial_in(tail)
    if low is None or high is None or polynomial is None:
        return None
    return low, high, polynomial


def _polynomial_in(text):
    """The polynomial other than (), of degree at most MAX_DEGREE, whose text a string is, or None."""
    factors = []
    for sign, words in _terms_in(text.split(" ")):
        factor, power = fraction_in(words[0]), _power_in(words[1:])
        if factor is None or factor[0] == 0 or power is None or power < len(factors):
            return None
        if sign != "" and factor[0] < 0:
            return None
        factors += [(0, 1)] * (power - len(factors))
        factors.append(contrary(factor) if sign == "-" else factor)
    return tuple(factors)


def _terms_in(words):
    """The list of the pairs of a sign, "" for the first one, and of the words of a term up to the next sign.

    A term without words has the one word "".
    """
    terms = [("", [])]
    for word in words:
        if word == "+" or word == "-":
            terms.append((word, []))
        else:
            terms[-1][1].append(word)
    return [(sign, term if term else [""]) for sign, term in terms]


def _power_in(words):
    """The power, at most MAX_DEGREE, that the words behind a term's fraction tell, or None."""
    if words == []:
        return 0
    if words == ["x"]:
        return 1
    figures = words[0].removeprefix("x^")
    if len(words) > 1 or figures == words[0] or not is_count_text(figures) or len(figures) > len(str(MAX_DEGREE)):
        return None
    power = int(figures)
    return power if 2 <= power <= MAX_DEGREE else None
