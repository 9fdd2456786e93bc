"""The same things reckoned another way, with Python's own fractions, and things drawn to try them on.

What is drawn is the same in each run: all drawing starts from a number that the test tells.
"""

from fractions import Fraction
from math import gcd


def value(f):
    """The Fraction of a fraction."""
    return Fraction(f[0], f[1])


def pair(number):
    """The fraction of a Fraction or of an integer."""
    number = Fraction(number)
    return number.numerator, number.denominator


def is_pair(f):
    """Whether something is a fraction."""
    return (type(f) is tuple and len(f) == 2 and type(f[0]) is int and type(f[1]) is int
            and f[1] > 0 and gcd(f[0], f[1]) == 1)


def is_poly(p):
    """Whether something is a polynomial."""
    return type(p) is tuple and all(is_pair(f) for f in p) and (p == () or p[-1][0] != 0)


def poly(*numbers):
    """The polynomial with these factors, that of power 0 first."""
    numbers = list(numbers)
    while numbers and numbers[-1] == 0:
        numbers.pop()
    return tuple(pair(number) for number in numbers)


def poly_value(p, x):
    """What a polynomial is at a Fraction."""
    return sum((value(f) * x ** power for power, f in enumerate(p)), Fraction(0))


def poly_times(p, q):
    """The product of two polynomials."""
    if not p or not q:
        return ()
    numbers = [Fraction(0)] * (len(p) + len(q) - 1)
    for place, f in enumerate(p):
        for further, g in enumerate(q):
            numbers[place + further] += value(f) * value(g)
    return poly(*numbers)


def poly_power(p, often):
    """The polynomial p times itself."""
    result = poly(1)
    for _ in range(often):
        result = poly_times(result, p)
    return result


def poly_plus(p, q):
    """The sum of two polynomials."""
    numbers = [Fraction(0)] * max(len(p), len(q))
    for r in (p, q):
        for place, f in enumerate(r):
            numbers[place] += value(f)
    return poly(*numbers)


def poly_integral(p, low, high):
    """The integral of a polynomial between two Fractions."""
    return sum((value(f) * (high ** (k + 1) - low ** (k + 1)) / (k + 1) for k, f in enumerate(p)), Fraction(0))


def curve_value(curve, x):
    """What a curve is at a Fraction that is no knot."""
    for low, high, p in curve:
        assert x != value(low) and x != value(high)
        if value(low) < x < value(high):
            return poly_value(p, x)
    return Fraction(0)


def curve_knots(*curves):
    """The ascending list of all knots, as Fractions."""
    return sorted({value(f) for curve in curves for low, high, _ in curve for f in (low, high)})


def is_curve(curve):
    """Whether something is a curve."""
    if type(curve) is not tuple:
        return False
    for piece in curve:
        if type(piece) is not tuple or len(piece) != 3 or not is_pair(piece[0]) or not is_pair(piece[1]):
            return False
        if not value(piece[0]) < value(piece[1]) or not is_poly(piece[2]) or piece[2] == ():
            return False
    for ahead, piece in zip(curve, curve[1:]):
        if value(ahead[1]) > value(piece[0]) or (ahead[1] == piece[0] and ahead[2] == piece[2]):
            return False
    return True


def spots(knots, many=30):
    """Many Fractions between each knot and the next one, and some outside of all."""
    if not knots:
        return [Fraction(-3), Fraction(0), Fraction(7, 2)]
    found = [knots[0] - 1, knots[0] - Fraction(1, 9), knots[-1] + Fraction(1, 9), knots[-1] + 1]
    for low, high in zip(knots, knots[1:]):
        found += [low + (high - low) * Fraction(k, many + 1) for k in range(1, many + 1)]
    return found


def step_value(step, x):
    """What a step curve is at a Fraction."""
    left, items = step
    result = value(left)
    for knot, worth, p in items:
        if value(knot) < x:
            result = poly_value(p, x)
        elif value(knot) == x:
            result = value(worth)
    return result


def step_knots(*steps):
    """The ascending list of all knots, as Fractions."""
    return sorted({value(item[0]) for step in steps for item in step[1]})


def is_step(step):
    """Whether something is a step curve."""
    if type(step) is not tuple or len(step) != 2 or not is_pair(step[0]) or type(step[1]) is not tuple:
        return False
    ahead = poly(value(step[0]))
    below = None
    for item in step[1]:
        if type(item) is not tuple or len(item) != 3 or not is_pair(item[0]) or not is_pair(item[1]):
            return False
        if not is_poly(item[2]) or (below is not None and value(item[0]) <= below):
            return False
        if item[2] == ahead and value(item[1]) == poly_value(ahead, value(item[0])):
            return False
        ahead, below = item[2], value(item[0])
    return len(ahead) <= 1


class Draw:
    """Draws things to try; where there is a choice, small and simple ones are likely."""

    def __init__(self, seed):
        import random
        self.lot = random.Random(seed)

    def number(self, great=6):
        """A Fraction."""
        if self.lot.random() < 0.04:
            return Fraction(self.lot.randint(-10 ** 40 + 1, 10 ** 40 - 1), self.lot.randint(1, 10 ** 40 - 1))
        return Fraction(self.lot.randint(-great, great), self.lot.choice([1, 1, 1, 2, 3, 4, 6, 7]))

    def small(self):
        """A Fraction with few figures."""
        return Fraction(self.lot.randint(-6, 6), self.lot.choice([1, 1, 2, 3]))

    def fraction(self):
        """A fraction."""
        return pair(self.number())

    def poly(self, degree=12):
        """A polynomial, often with factors that are 0."""
        return poly(*[self.lot.choice([0, self.number(), self.number()]) for _ in range(self.lot.randint(0, degree + 1))])

    def knots(self, many):
        """Ascending Fractions."""
        return sorted({self.small() for _ in range(many)})

    def curve(self, many=5, degree=3):
        """A curve; pieces touch, leave gaps, and have the polynomials of others."""
        knots = self.knots(self.lot.randint(0, many) + 1 + self.lot.randint(0, 1))
        polys = [poly(1), poly(-1), poly(0, 1)] + [self.small_poly(degree) for _ in range(4)]
        curve = []
        for low, high in zip(knots, knots[1:]):
            p = self.lot.choice(polys)
            touches = curve and curve[-1][1] == pair(low)
            if self.lot.random() < 0.15 or p == () or (touches and curve[-1][2] == p):
                continue
            curve.append((pair(low), pair(high), p))
        return tuple(curve)

    def small_poly(self, degree):
        """A polynomial with small factors."""
        return poly(*[self.lot.choice([0, self.small()]) for _ in range(self.lot.randint(0, degree + 1))])

    def step(self, many=4, degree=3):
        """A step curve."""
        left = self.lot.choice([Fraction(0), Fraction(1), self.small()])
        items = []
        ahead = poly(left)
        knots = self.knots(self.lot.randint(0, many))
        for knot in knots:
            last = knot == knots[-1]
            p = self.lot.choice([ahead, poly(1), (), self.small_poly(0 if last else degree)])
            if last and len(p) > 1:
                p = poly(2)
            worth = self.lot.choice([poly_value(p, knot), poly_value(ahead, knot), self.small()])
            if p == ahead and worth == poly_value(ahead, knot):
                continue
            items.append((pair(knot), pair(worth), p))
            ahead = p
        if len(ahead) > 1:
            items.append((pair(knots[-1] + 1), pair(0), ()))
        return pair(left), tuple(items)

    def lumps(self, many=3):
        """An ascending tuple of pairs of a place and a weight."""
        return tuple((pair(x), pair(abs(self.small()) + Fraction(1, 7))) for x in self.knots(self.lot.randint(0, many)))

    def spread(self):
        """A spread, with lumps at knots, in pieces and outside."""
        lumps = self.lumps() if self.lot.random() < 0.6 else ()
        curve = []
        for low, high, p in self.curve(8):
            p = poly_plus(poly_times(p, p), poly(self.lot.choice([0, 1])))
            if not (curve and curve[-1][1] == low and curve[-1][2] == p):
                curve.append((low, high, p))
        total = sum((value(weight) for _, weight in lumps), Fraction(0))
        total += sum((poly_integral(p, value(low), value(high)) for low, high, p in curve), Fraction(0))
        if total == 0:
            return ((pair(self.small()), (1, 1)),), ()
        lumps = tuple((place, pair(value(weight) / total)) for place, weight in lumps)
        share = poly(1 / total)
        return lumps, tuple((low, high, poly_times(p, share)) for low, high, p in curve)
