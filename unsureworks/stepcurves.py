"""Step curves: pairs (left, items), the items being triples (knot, value, polynomial)."""

from unsureworks.curves import knots_of, polynomials_between
from unsureworks.numbers import is_fraction, less, merged, order, plus, times
from unsureworks.polynomials import added, at, constant_of, heap_of, is_polynomial, multiplied, scaled


def step_error(value):
    """None if value, any value, is a step curve; otherwise what is wrong with it."""
    if not isinstance(value, tuple) or len(value) != 2:
        return "form"
    left, items = value
    if not is_fraction(left) or not isinstance(items, tuple):
        return "form"
    for place, item in enumerate(items):
        if not _is_item(item):
            return ("item", place)
    for place in range(1, len(items)):
        if order(items[place][0], items[place - 1][0]) <= 0:
            return ("order", place)
    if items and len(items[-1][2]) > 1:
        return "last"
    ahead = constant_of(left)
    for place, item in enumerate(items):
        if _can_be_left_out(item, ahead):
            return ("alike", place)
        ahead = item[2]
    return None


def _is_item(value):
    """Whether value, any value, is a triple of a fraction, a fraction and a polynomial."""
    if not isinstance(value, tuple) or len(value) != 3:
        return False
    return is_fraction(value[0]) and is_fraction(value[1]) and is_polynomial(value[2])


def _can_be_left_out(item, ahead):
    """Whether an item, behind one with the polynomial ahead, changes nothing."""
    knot, worth, polynomial = item
    return polynomial == ahead and worth == at(ahead, knot)


def steps_tidied(left, items):
    """The step curve of ascending items, some of which may be such as can be left out."""
    kept = []
    ahead = constant_of(left)
    for item in items:
        if not _can_be_left_out(item, ahead):
            kept.append(item)
            ahead = item[2]
    return left, tuple(kept)


def _polynomial_from(step, count):
    """The polynomial that a step curve has behind so many of its items."""
    left, items = step
    return items[count - 1][2] if count > 0 else constant_of(left)


def step_at(step, f):
    """The value of a step curve at a fraction."""
    for knot, worth, _ in step[1]:
        if knot == f:
            return worth
    return behind_at(step, f)


def ahead_at(step, f):
    """What a step curve comes to at a fraction from the left."""
    count = len([item for item in step[1] if order(item[0], f) < 0])
    return at(_polynomial_from(step, count), f)


def behind_at(step, f):
    """What a step curve comes to at a fraction from the right."""
    count = len([item for item in step[1] if order(item[0], f) <= 0])
    return at(_polynomial_from(step, count), f)


def parts_at(step, knots):
    """For each of the ascending knots the pair of a step curve's value there and of its polynomial from there on.

    All knots of the step curve are among them.
    """
    left, items = step
    polynomial = constant_of(left)
    parts = []
    count = 0
    for knot in knots:
        if count < len(items) and items[count][0] == knot:
            _, worth, polynomial = items[count]
            count += 1
        else:
            worth = at(polynomial, knot)
        parts.append((worth, polynomial))
    return parts


def _combined(one, other, act, act_wide):
    """The step curve made of two others: of fractions by act, of polynomials by act_wide."""
    knots = merged([item[0] for item in one[1]], [item[0] for item in other[1]])
    first = parts_at(one, knots)
    second = parts_at(other, knots)
    items = []
    for knot, (f, p), (g, q) in zip(knots, first, second):
        items.append((knot, act(f, g), act_wide(p, q)))
    return steps_tidied(act(one[0], other[0]), items)


def steps_added(one, other):
    """The sum of two step curves."""
    return _combined(one, other, plus, added)


def steps_multiplied(one, other):
    """The product of two step curves."""
    return _combined(one, other, times, multiplied)


def step_scaled(step, f):
    """The product of a step curve and a fraction."""
    left, items = step
    products = [(knot, times(worth, f), scaled(polynomial, f)) for knot, worth, polynomial in items]
    return steps_tidied(times(left, f), products)


def heap_step(curve, lumps):
    """The step curve of the integral of a curve up to each t, and of the weights of all lumps up to there."""
    weights = {place: weight for place, weight in lumps}
    knots = merged(knots_of(curve), [place for place, _ in lumps])
    items = []
    heap = ()
    for knot, polynomial in zip(knots, polynomials_between(curve, knots) + [()]):
        worth = plus(at(heap, knot), weights.get(knot, (0, 1)))
        rising = heap_of(polynomial)
        heap = added(rising, constant_of(less(worth, at(rising, knot))))
        items.append((knot, worth, heap))
    return steps_tidied((0, 1), items)
