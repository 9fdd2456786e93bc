"""Chances, means and integrals reckoned another way: by values at single places alone.

What is integrated is a polynomial between neighbouring cuts: places where two of all planes meet, at which anything may
change. So it is told by its values at enough places between them, and by the weights that make integrals of these.
"""

import itertools
from fractions import Fraction

from tests.oracle import (all_values, body_holds, is_said, pair, poly, poly_integral, poly_of_places, poly_times, poly_value,
                          shared, value)

WEIGHTS = {}


def weights(many):
    """The pairs of a place between 0 and 1 and of its weight: so an integral of degree below many is made of values."""
    if many not in WEIGHTS:
        places = [Fraction(k + 1, many + 1) for k in range(many)]
        found = []
        for place in places:
            others = poly_of_places(*[other for other in places if other != place])
            found.append((place, poly_integral(others, Fraction(0), Fraction(1)) / poly_value(others, place)))
        WEIGHTS[many] = found
    return WEIGHTS[many]


def solved(planes, many):
    """The single point at which as many planes as there are coordinates are 0, None if there is none such."""
    rows = [list(plane) for plane in planes]
    for k in range(many):
        pivots = [row for row in rows[k:] if row[k] != 0]
        if not pivots:
            return None
        pivot = pivots[0]
        rows.remove(pivot)
        rows.insert(k, pivot)
        rows = [row if row is pivot else [a - row[k] / pivot[k] * b for a, b in zip(row, pivot)] for row in rows]
    return [-rows[k][-1] / rows[k][k] for k in range(many)]


def nested(planes, many, degree, worth, behind=()):
    """The integral of worth, 0 outside of a bounded set, over so many coordinates; behind are the values of others.

    planes are those at which worth may change: a factor for each coordinate, and a constant.
    """
    if many == 0:
        return worth(behind)
    cuts = set()
    for some in itertools.combinations(planes, many):
        point = solved(some, many)
        if point is not None:
            cuts.add(point[-1])
    cuts = sorted(cuts)
    total = Fraction(0)
    for low, high in zip(cuts, cuts[1:]):
        for place, weight in weights(degree + many):
            last = low + (high - low) * place
            inner = {plane[:many - 1] + (plane[many - 1] * last + plane[-1],) for plane in planes}
            inner = [plane for plane in inner if any(plane[:-1])]
            total += weight * (high - low) * nested(inner, many - 1, degree, worth, (last,) + behind)
    return total


def body_total(draws, body, powers):
    """The integral of a sum of powers over a bounded body that has a volume, or none, but no comparison with "="."""
    planes = list({tuple(value(f) for f in factors) + (value(constant),) for (factors, constant, _), _ in body})
    degree = max([sum(exponents) for exponents, _ in powers], default=0)

    def worth(point):
        if not body_holds(body, tuple(pair(x) for x in point), (0, 1)):
            return Fraction(0)
        total = Fraction(0)
        for exponents, f in powers:
            share = value(f)
            for x, power in zip(point, exponents):
                share *= x ** power
            total += share
        return total
    return nested([plane for plane in planes if any(plane[:-1])], draws, degree, worth)


def forms_of_names(program, known):
    """For each name the set of all forms that it may have, whatever is chosen: a factor for each coordinate, a constant."""
    found = [{form} for form in known]
    for line in program:
        if line[0] == "sum":
            some = {tuple([Fraction(0)] * (len(known[0]) - 1)) + (value(line[2]),)}
            for f, name in line[1]:
                some = {tuple(a + value(f) * b for a, b in zip(one, other)) for one in some for other in found[name]}
            found.append(some)
        elif line[0] == "shift":
            found.append(found[line[1]])
        elif line[0] == "choice":
            found.append(found[line[4]] | found[line[5]])
        else:
            found.append(found[line[1]] | found[line[2]])
    return found


def planes_of(program, saying, known):
    """All planes at which something that is compared may change."""
    found = forms_of_names(program, known)
    pairs = [(line[1], line[2]) for line in program if line[0] in ("greatest", "least")]
    pairs += [(line[1], line[3]) for line in program if line[0] == "choice"] + compared(saying)
    return {tuple(a - b for a, b in zip(one, other)) for first, second in pairs for one in found[first] for other in found[second]}


def compared(saying):
    """The pairs of names in the compared sayings of a saying, or of None."""
    if saying is None:
        return []
    if saying[0] in ("and", "or", "not"):
        return [both for part in saying[1:] for both in compared(part)]
    return [saying[1:]]


def total(world, program, asked, saying):
    """The sum of all portions of a saying, or of None, with the product of some names asked; no line is a shift."""
    found = Fraction(0)
    for box in itertools.product(*[lumps + curve for lumps, curve in world]):
        found += portion(box, program, asked, saying)
    return found


def inner_and_planes(box, program, saying):
    """The pair of the draws with a piece in a box, and of all planes of these at which something may change."""
    inner = [place for place, item in enumerate(box) if len(item) == 3]
    known, walls = [], set()
    for place, item in enumerate(box):
        factors = tuple(Fraction(place == other) for other in inner)
        if len(item) == 3:
            known.append(factors + (Fraction(0),))
            walls |= {factors + (-value(item[0]),), factors + (-value(item[1]),)}
        else:
            known.append(factors + (value(item[0]),))
    return inner, [plane for plane in planes_of(program, saying, known) | walls if any(plane[:-1])]


def portion(box, program, asked, saying):
    """The portion of a box."""
    inner, planes = inner_and_planes(box, program, saying)
    share = Fraction(1)
    for item in box:
        share *= value(item[1]) if len(item) == 2 else 1
    degree = sum(len(box[place][2]) - 1 for place in inner) + len(asked)

    def worth(point):
        numbers = dict(zip(inner, point))
        result = Fraction(1)
        for place, item in enumerate(box):
            if place not in numbers:
                numbers[place] = value(item[0])
            elif value(item[0]) < numbers[place] < value(item[1]):
                result *= poly_value(item[2], numbers[place])
            else:
                return Fraction(0)
        values = all_values(program, tuple(pair(numbers[place]) for place in range(len(box))), (0, 1))
        if saying is not None and not is_said(saying, values):
            return Fraction(0)
        for name in asked:
            result *= values[name]
        return result
    return share * nested(planes, len(inner), degree, worth)


def constant(number):
    """A line that comes to a number."""
    return "sum", (), pair(number)


def many(saying, often):
    """A saying with as many compared sayings, each the same."""
    found = saying
    for _ in range(often - 1):
        found = ("and", found, saying)
    return found


def at_t(program, t):
    """The program with a Fraction put in the place of t."""
    return tuple(("sum", (((1, 1), line[1]),), pair(value(line[2]) * t)) if line[0] == "shift" else line for line in program)


def tidy(curve):
    """The curve of pieces, neighbours with the same polynomial being one piece."""
    found = []
    for low, high, p in curve:
        if found and found[-1][1] == low and found[-1][2] == p:
            found[-1] = (found[-1][0], high, p)
        else:
            found.append((low, high, p))
    return tuple(found)


class Worlds:
    """Draws worlds, programs and sayings in which much happens: few numbers, so that borders fall together."""

    def __init__(self, draw):
        self.draw, self.lot = draw, draw.lot

    def spread(self):
        """A spread for a draw: with lumps on borders, inside and outside of pieces."""
        many = self.lot.choice([0, 0, 1, 2])
        pieces = self.lot.choice([1, 1, 2]) if many == 0 else self.lot.choice([0, 1, 1, 2])
        knots = sorted({Fraction(self.lot.randint(-3, 4), self.lot.choice([1, 1, 1, 2])) for _ in range(pieces + 2)})
        curve = []
        for low, high in list(zip(knots, knots[1:]))[:pieces]:
            rising, falling = poly(-low, 1), poly(high, -1)
            curve.append((low, high, self.lot.choice([poly(1), poly(1), poly(2), rising, falling, poly_times(rising, falling),
                                                      poly(1 + abs(low) + abs(high), self.lot.choice([0, 1, -1]))])))
        places = sorted({Fraction(self.lot.randint(-2, 3), self.lot.choice([1, 1, 2])) for _ in range(many)})
        if not places and not curve:
            places = [Fraction(0)]
        lumps, curve = shared([(place, self.lot.randint(1, 3)) for place in places], curve)
        return lumps, tidy(curve)

    def world(self, sizes=(1, 2, 2, 3), most=12):
        """A world with at most so many boxes."""
        while True:
            world = tuple(self.spread() for _ in range(self.lot.choice(sizes)))
            boxes = 1
            for lumps, curve in world:
                boxes *= len(lumps) + len(curve)
            if boxes <= most:
                return world

    def program(self, draws, many, choices, shifts=0):
        """A program of so many lines, of which so many choose; with shifts it begins with a line for t, and has more."""
        lines = []
        if shifts:
            lines = [("sum", (), pair(self.draw.small())), ("shift", draws, pair(self.lot.choice([1, 1, 1, -1, Fraction(1, 2)])))]
        words = ["choice"] * choices + ["sum"] * (many - choices)
        self.lot.shuffle(words)
        for word in words:
            lines.append(self.line(draws, draws + len(lines), word, shifts))
        return tuple(lines)

    def line(self, draws, names, word, shifts):
        """A line; names just ahead of it and draws are likely in it."""
        def name():
            return self.lot.choice([self.lot.randrange(names), names - 1, self.lot.randrange(draws)])
        if word == "sum" and shifts and self.lot.random() < 0.4:
            return "shift", name(), pair(self.lot.choice([1, -1, 0, 2, Fraction(-1, 2)]))
        if word == "sum":
            some = sorted({name() for _ in range(self.lot.randint(1, 3))})
            return ("sum", tuple((pair(self.lot.choice([1, 1, -1, Fraction(1, 2), 2])), other) for other in some),
                    pair(self.lot.choice([0, 0, 1, -1, Fraction(1, 2)])))
        word = self.lot.choice(["greatest", "least", "choice", "choice"])
        if word == "choice":
            return word, name(), self.lot.choice(["<", "<=", "="]), name(), name(), name()
        return word, name(), name()

    def saying(self, names, many):
        """A saying with so many compared sayings; the last names are likely in it."""
        if self.lot.random() < 0.2:
            return "not", self.saying(names, many)
        if many == 1:
            both = [names - 1 - min(self.lot.randrange(names), self.lot.randrange(names)), self.lot.randrange(names)]
            self.lot.shuffle(both)
            return self.lot.choice(["<", "<=", "="]), both[0], both[1]
        first = self.lot.randint(1, many - 1)
        return self.lot.choice(["and", "or"]), self.saying(names, first), self.saying(names, many - first)


def points_of_all_parts(planes, many):
    """Points, at least one in each part in which all planes keep their signs, be it as thin as can be."""
    if many == 0:
        return [()]
    cuts = set()
    for some in itertools.combinations(planes, many):
        point = solved(some, many)
        if point is not None:
            cuts.add(point[-1])
    cuts = sorted(cuts)
    found = []
    for last in cuts + [(low + high) / 2 for low, high in zip(cuts, cuts[1:])]:
        inner = {plane[:many - 1] + (plane[many - 1] * last + plane[-1],) for plane in planes}
        found += [point + (last,) for point in points_of_all_parts([plane for plane in inner if any(plane[:-1])], many - 1)]
    return found


def numbers_of_all_parts(world, program, one, other):
    """Numbers of a world: where two names can compare in some way, they do so at one of these."""
    for box in itertools.product(*[lumps + curve for lumps, curve in world]):
        inner, planes = inner_and_planes(box, program, ("=", one, other))
        for point in points_of_all_parts(planes, len(inner)):
            numbers = dict(zip(inner, point))
            if all(value(box[place][0]) < x < value(box[place][1]) for place, x in numbers.items()):
                yield tuple(pair(numbers[place]) if place in numbers else item[0] for place, item in enumerate(box))
