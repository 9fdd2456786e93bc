"""The same things reckoned another way, with Python's own fractions, and things drawn to try them on.

What is drawn is the same in each run: all drawing starts from a number that the test tells.
"""

from fractions import Fraction
from math import comb, gcd, lcm


def value(f):
    """The Fraction of a fraction."""
    return Fraction(f[0], f[1])


def pair(number):
    """The fraction of a Fraction or of an integer."""
    number = Fraction(number)
    return number.numerator, number.denominator


def is_pair(f):
    """Whether something is a fraction."""
    return (type(f) is tuple and len(f) == 2 and type(f[0]) is int and type(f[1]) is int
            and f[1] > 0 and gcd(f[0], f[1]) == 1)


def is_poly(p):
    """Whether something is a polynomial."""
    return type(p) is tuple and all(is_pair(f) for f in p) and (p == () or p[-1][0] != 0)


def poly(*numbers):
    """The polynomial with these factors, that of power 0 first."""
    numbers = list(numbers)
    while numbers and numbers[-1] == 0:
        numbers.pop()
    return tuple(pair(number) for number in numbers)


def poly_value(p, x):
    """What a polynomial is at a Fraction."""
    return sum((value(f) * x ** power for power, f in enumerate(p)), Fraction(0))


def poly_times(p, q):
    """The product of two polynomials."""
    if not p or not q:
        return ()
    numbers = [Fraction(0)] * (len(p) + len(q) - 1)
    for place, f in enumerate(p):
        for further, g in enumerate(q):
            numbers[place + further] += value(f) * value(g)
    return poly(*numbers)


def poly_power(p, often):
    """The polynomial p times itself."""
    result = poly(1)
    for _ in range(often):
        result = poly_times(result, p)
    return result


def poly_plus(p, q):
    """The sum of two polynomials."""
    numbers = [Fraction(0)] * max(len(p), len(q))
    for r in (p, q):
        for place, f in enumerate(r):
            numbers[place] += value(f)
    return poly(*numbers)


def poly_integral(p, low, high):
    """The integral of a polynomial between two Fractions."""
    return sum((value(f) * (high ** (k + 1) - low ** (k + 1)) / (k + 1) for k, f in enumerate(p)), Fraction(0))


def curve_value(curve, x):
    """What a curve is at a Fraction that is no knot."""
    for low, high, p in curve:
        assert x != value(low) and x != value(high)
        if value(low) < x < value(high):
            return poly_value(p, x)
    return Fraction(0)


def curve_knots(*curves):
    """The ascending list of all knots, as Fractions."""
    return sorted({value(f) for curve in curves for low, high, _ in curve for f in (low, high)})


def is_curve(curve):
    """Whether something is a curve."""
    if type(curve) is not tuple:
        return False
    for piece in curve:
        if type(piece) is not tuple or len(piece) != 3 or not is_pair(piece[0]) or not is_pair(piece[1]):
            return False
        if not value(piece[0]) < value(piece[1]) or not is_poly(piece[2]) or piece[2] == ():
            return False
    for ahead, piece in zip(curve, curve[1:]):
        if value(ahead[1]) > value(piece[0]) or (ahead[1] == piece[0] and ahead[2] == piece[2]):
            return False
    return True


def spots(knots, many=30):
    """Many Fractions between each knot and the next one, and some outside of all."""
    if not knots:
        return [Fraction(-3), Fraction(0), Fraction(7, 2)]
    found = [knots[0] - 1, knots[0] - Fraction(1, 9), knots[-1] + Fraction(1, 9), knots[-1] + 1]
    for low, high in zip(knots, knots[1:]):
        found += [low + (high - low) * Fraction(k, many + 1) for k in range(1, many + 1)]
    return found


def step_value(step, x):
    """What a step curve is at a Fraction."""
    left, items = step
    result = value(left)
    for knot, worth, p in items:
        if value(knot) < x:
            result = poly_value(p, x)
        elif value(knot) == x:
            result = value(worth)
    return result


def step_knots(*steps):
    """The ascending list of all knots, as Fractions."""
    return sorted({value(item[0]) for step in steps for item in step[1]})


def is_step(step):
    """Whether something is a step curve."""
    if type(step) is not tuple or len(step) != 2 or not is_pair(step[0]) or type(step[1]) is not tuple:
        return False
    ahead = poly(value(step[0]))
    below = None
    for item in step[1]:
        if type(item) is not tuple or len(item) != 3 or not is_pair(item[0]) or not is_pair(item[1]):
            return False
        if not is_poly(item[2]) or (below is not None and value(item[0]) <= below):
            return False
        if item[2] == ahead and value(item[1]) == poly_value(ahead, value(item[0])):
            return False
        ahead, below = item[2], value(item[0])
    return len(ahead) <= 1


def poly_slope(p):
    """The derivative of a polynomial."""
    return poly(*[k * value(f) for k, f in enumerate(p)][1:])


def whole_row(numbers):
    """Integers that are the same positive multiple of all numbers, without a common divisor."""
    bottom = lcm(*[Fraction(number).denominator for number in numbers])
    tops = [int(number * bottom) for number in numbers]
    return [top // gcd(*tops) for top in tops]


def sturm_rows(p):
    """Sturm's rows of a polynomial that is not ()."""
    rows = [whole_row([value(f) for f in p])]
    if len(p) == 1:
        return rows
    rows.append(whole_row([value(f) for f in poly_slope(p)]))
    while True:
        left, by = list(rows[-2]), rows[-1]
        while len(left) >= len(by):
            top = left[-1]
            left = [factor * abs(by[-1]) for factor in left]
            for place in range(len(by)):
                left[len(left) - len(by) + place] -= top * by[place] * (1 if by[-1] > 0 else -1)
            left.pop()
        while left and left[-1] == 0:
            left.pop()
        if not left:
            return rows
        rows.append(whole_row([-factor for factor in left]))


def places_between(p, low, high, rows=None):
    """At how many places between two Fractions a polynomial is 0; it is not 0 at these two."""
    changes = []
    for x in (Fraction(low), Fraction(high)):
        signs = []
        for row in rows or sturm_rows(p):
            worth = 0
            for power, factor in enumerate(row):
                worth += factor * x.numerator ** power * x.denominator ** (len(row) - 1 - power)
            if worth:
                signs.append(worth > 0)
        changes.append(sum(1 for a, b in zip(signs, signs[1:]) if a != b))
    return changes[0] - changes[1]


def only_place(p, low, high):
    """The Fraction between two others at which a polynomial, that is 0 once there, is 0; None if it is none."""
    rows = sturm_rows(p)
    last = abs(rows[0][-1])
    while high - low > Fraction(1, 2 * last * last):
        middle = (low + high) / 2
        if poly_value(p, middle) == 0:
            return middle
        if places_between(p, low, middle, rows) == 1:
            high = middle
        else:
            low = middle
    place = ((low + high) / 2).limit_denominator(last)
    return place if poly_value(p, place) == 0 else None


def poly_of_places(*places):
    """The polynomial that is 0 at these Fractions."""
    result = poly(1)
    for place in places:
        result = poly_times(result, poly(-Fraction(place), 1))
    return result


def poly_at_line(p, start, rate):
    """The polynomial that has at each u what p has at start + rate * u, all Fractions."""
    result, power = poly(), poly(1)
    for f in p:
        result = poly_plus(result, poly_times(power, poly(value(f))))
        power = poly_times(power, poly(start, rate))
    return result


def end_factors(r, begin, end):
    """What, but for positive numbers, the factors c_0 .. c_n of a sign paper's item are."""
    numbers = [value(f) for f in poly_at_line(r, begin, end - begin)]
    n = len(r) - 1
    return [sum((numbers[j] * comb(i, j) / comb(n, j) for j in range(min(i + 1, len(numbers)))), Fraction(0))
            for i in range(n + 1)]


def is_sign_paper(p, low, high, paper):
    """Whether something is a sign paper of a polynomial between two fractions."""
    if type(paper) is not tuple or paper == ():
        return False
    ahead = low
    for item in paper:
        if type(item) is not tuple or len(item) != 4 or not is_pair(item[0]) or not is_pair(item[1]):
            return False
        begin, end, s, r = item
        if not is_poly(s) or not is_poly(r) or begin != ahead or value(begin) >= value(end):
            return False
        if poly_times(poly_times(s, s), r) != p or min(end_factors(r, value(begin), value(end)), default=0) < 0:
            return False
        ahead = end
    return ahead == high


def poly_behind(p, x):
    """The polynomial that has at each u what p has at the Fraction x less u."""
    return poly_at_line(p, x, -1)


def chance_up_to(spread, x):
    """The chance of a spread's number to be at most a Fraction."""
    total = sum((value(weight) for place, weight in spread[0] if value(place) <= x), Fraction(0))
    for low, high, p in spread[1]:
        if value(low) < x:
            total += poly_integral(p, value(low), min(value(high), x))
    return total


def sum_chance(one, other, x):
    """The chance of the sum of two independent numbers to be at most a Fraction."""
    total = sum((value(weight) * chance_up_to(other, x - value(place)) for place, weight in one[0]), Fraction(0))
    places = [value(place) for place, _ in other[0]] + [value(f) for piece in other[1] for f in piece[:2]]
    for low, high, p in one[1]:
        low, high = value(low), value(high)
        cuts = sorted({low, high} | {x - place for place in places if low < x - place < high})
        for begin, end in zip(cuts, cuts[1:]):
            middle = x - (begin + end) / 2
            heap = poly(sum((value(weight) for place, weight in other[0] if value(place) < middle), Fraction(0)))
            for a, b, q in other[1]:
                rising = poly(*([0] + [value(f) / (k + 1) for k, f in enumerate(q)]))
                if value(a) < middle < value(b):
                    heap = poly_plus(heap, poly_plus(rising, poly(-poly_value(rising, value(a)))))
                elif value(b) < middle:
                    heap = poly_plus(heap, poly(poly_integral(q, value(a), value(b))))
            total += poly_integral(poly_times(p, poly_behind(heap, x)), begin, end)
    return total


def many_chance(chances, many):
    """The chance that so many or more of independent events come about."""
    exactly = {0: Fraction(1)}
    for chance in chances:
        further = {}
        for count, share in exactly.items():
            further[count] = further.get(count, 0) + share * (1 - chance)
            further[count + 1] = further.get(count + 1, 0) + share * chance
        exactly = further
    return sum((share for count, share in exactly.items() if count >= many), Fraction(0))


def shared(lumps, pieces):
    """The spread with lumps and pieces as told, all of them divided by what they make together."""
    total = sum((Fraction(share) for _, share in lumps), Fraction(0))
    total += sum((poly_integral(p, Fraction(low), Fraction(high)) for low, high, p in pieces), Fraction(0))
    by = poly(1 / total)
    return (tuple((pair(place), pair(Fraction(share) / total)) for place, share in lumps),
            tuple((pair(low), pair(high), poly_times(p, by)) for low, high, p in pieces))


def spread_mean(spread):
    """The mean of a spread, as a Fraction."""
    total = sum((value(place) * value(weight) for place, weight in spread[0]), Fraction(0))
    return total + sum((poly_integral(poly_times(p, poly(0, 1)), value(low), value(high)) for low, high, p in spread[1]),
                       Fraction(0))


def spread_places(*spreads):
    """The ascending list of the places of all lumps and of all knots, as Fractions."""
    found = {value(place) for spread in spreads for place, _ in spread[0]}
    return sorted(found | {value(f) for spread in spreads for piece in spread[1] for f in piece[:2]})


def probes(places):
    """Fractions at all places, twice between each and the next one, and outside."""
    found = list(places) + [places[0] - 1, places[-1] + 1]
    for low, high in zip(places, places[1:]):
        found += [low + (high - low) / 3, low + (high - low) * Fraction(3, 4)]
    return sorted(found)


class Draw:
    """Draws things to try; where there is a choice, small and simple ones are likely."""

    def __init__(self, seed):
        import random
        self.lot = random.Random(seed)

    def number(self, great=6):
        """A Fraction."""
        if self.lot.random() < 0.04:
            return Fraction(self.lot.randint(-10 ** 40 + 1, 10 ** 40 - 1), self.lot.randint(1, 10 ** 40 - 1))
        return Fraction(self.lot.randint(-great, great), self.lot.choice([1, 1, 1, 2, 3, 4, 6, 7]))

    def small(self):
        """A Fraction with few figures."""
        return Fraction(self.lot.randint(-6, 6), self.lot.choice([1, 1, 2, 3]))

    def fraction(self):
        """A fraction."""
        return pair(self.number())

    def poly(self, degree=12):
        """A polynomial, often with factors that are 0."""
        return poly(*[self.lot.choice([0, self.number(), self.number()]) for _ in range(self.lot.randint(0, degree + 1))])

    def knots(self, many):
        """Ascending Fractions."""
        return sorted({self.small() for _ in range(many)})

    def curve(self, many=5, degree=3):
        """A curve; pieces touch, leave gaps, and have the polynomials of others."""
        knots = self.knots(self.lot.randint(0, many) + 1 + self.lot.randint(0, 1))
        polys = [poly(1), poly(-1), poly(0, 1)] + [self.small_poly(degree) for _ in range(4)]
        curve = []
        for low, high in zip(knots, knots[1:]):
            p = self.lot.choice(polys)
            touches = curve and curve[-1][1] == pair(low)
            if self.lot.random() < 0.15 or p == () or (touches and curve[-1][2] == p):
                continue
            curve.append((pair(low), pair(high), p))
        return tuple(curve)

    def small_poly(self, degree):
        """A polynomial with small factors."""
        return poly(*[self.lot.choice([0, self.small()]) for _ in range(self.lot.randint(0, degree + 1))])

    def step(self, many=4, degree=3):
        """A step curve."""
        left = self.lot.choice([Fraction(0), Fraction(1), self.small()])
        items = []
        ahead = poly(left)
        knots = self.knots(self.lot.randint(0, many))
        for knot in knots:
            last = knot == knots[-1]
            p = self.lot.choice([ahead, poly(1), (), self.small_poly(0 if last else degree)])
            if last and len(p) > 1:
                p = poly(2)
            worth = self.lot.choice([poly_value(p, knot), poly_value(ahead, knot), self.small()])
            if p == ahead and worth == poly_value(ahead, knot):
                continue
            items.append((pair(knot), pair(worth), p))
            ahead = p
        if len(ahead) > 1:
            items.append((pair(knots[-1] + 1), pair(0), ()))
        return pair(left), tuple(items)

    def lumps(self, many=3):
        """An ascending tuple of pairs of a place and a weight."""
        return tuple((pair(x), pair(abs(self.small()) + Fraction(1, 7))) for x in self.knots(self.lot.randint(0, many)))

    def spread(self):
        """A spread, with lumps at knots, in pieces and outside."""
        lumps = self.lumps() if self.lot.random() < 0.6 else ()
        curve = []
        for low, high, p in self.curve(8):
            p = poly_plus(poly_times(p, p), poly(self.lot.choice([0, 1])))
            if not (curve and curve[-1][1] == low and curve[-1][2] == p):
                curve.append((low, high, p))
        total = sum((value(weight) for _, weight in lumps), Fraction(0))
        total += sum((poly_integral(p, value(low), value(high)) for low, high, p in curve), Fraction(0))
        if total == 0:
            return ((pair(self.small()), (1, 1)),), ()
        lumps = tuple((place, pair(value(weight) / total)) for place, weight in lumps)
        share = poly(1 / total)
        return lumps, tuple((low, high, poly_times(p, share)) for low, high, p in curve)

    def form(self, draws):
        """A form; its numbers are often 0, and often those of other forms."""
        def number():
            return pair(self.lot.choice([0, 0, 1, -1, 1, 2, self.small(), self.small()]))
        return tuple(number() for _ in range(draws)), number(), number()

    def body(self, draws, many, words=("<", "<", "<=", "<=", "=")):
        """A body."""
        return tuple((self.form(draws), self.lot.choice(words)) for _ in range(many))

    def line(self, names, word):
        """A line with names less than this."""
        a, b, x, y = [self.lot.randrange(names) for _ in range(4)]
        if word == "sum":
            some = sorted(self.lot.sample(range(names), self.lot.randint(0, min(3, names))))
            return "sum", tuple((pair(self.lot.choice([0, 1, -1, self.small()])), name) for name in some), pair(self.small())
        if word == "shift":
            return "shift", a, pair(self.small())
        if word in ("greatest", "least"):
            return word, a, b
        return "choice", a, self.lot.choice(["<", "<=", "="]), b, x, y

    def program(self, draws, many, choices):
        """A program of so many lines, of which so many choose; most of them use what stands just ahead."""
        words = [self.lot.choice(["greatest", "least", "choice", "choice"]) for _ in range(choices)]
        words += [self.lot.choice(["sum", "sum", "shift"]) for _ in range(many - choices)]
        self.lot.shuffle(words)
        return tuple(self.line(draws + place, word) for place, word in enumerate(words))

    def saying(self, names, compared):
        """A saying with so many compared sayings."""
        if self.lot.random() < 0.2:
            return "not", self.saying(names, compared)
        if compared == 1:
            return self.lot.choice(["<", "<=", "="]), self.lot.randrange(names), self.lot.randrange(names)
        first = self.lot.randint(1, compared - 1)
        return self.lot.choice(["and", "or"]), self.saying(names, first), self.saying(names, compared - first)

    def point(self, draws):
        """A point with few unlike numbers, so that some are often equal."""
        return tuple(pair(self.lot.choice([0, 1, self.small()])) for _ in range(draws)), pair(self.lot.choice([0, 1, self.small()]))


def form_value(form, numbers, t):
    """What a form comes to, as a Fraction."""
    factors, constant, by = form
    return sum((value(f) * value(x) for f, x in zip(factors, numbers)), value(constant) + value(by) * value(t))


def is_so(word, difference):
    """Whether something compares with 0 as a word tells."""
    return {"<": difference < 0, "<=": difference <= 0, "=": difference == 0}[word]


def body_holds(body, numbers, t):
    """Whether a body holds at a point."""
    return all(is_so(word, form_value(form, numbers, t)) for form, word in body)


def all_values(program, numbers, t):
    """What all names come to, as Fractions."""
    values = [value(number) for number in numbers]
    for line in program:
        if line[0] == "sum":
            worth = sum((value(f) * values[name] for f, name in line[1]), value(line[2]))
        elif line[0] == "shift":
            worth = values[line[1]] + value(line[2]) * value(t)
        elif line[0] == "choice":
            worth = values[line[4]] if is_so(line[2], values[line[1]] - values[line[3]]) else values[line[5]]
        else:
            worth = (max if line[0] == "greatest" else min)(values[line[1]], values[line[2]])
        values.append(worth)
    return values


def is_said(saying, values):
    """Whether a saying is true of what all names come to."""
    if saying[0] == "not":
        return not is_said(saying[1], values)
    if saying[0] in ("and", "or"):
        both = [is_said(part, values) for part in saying[1:]]
        return all(both) if saying[0] == "and" else any(both)
    return is_so(saying[0], values[saying[1]] - values[saying[2]])


def shares_paper(draws, body, paper):
    """Whether something is a paper that there is no point in a body."""
    if type(paper) is not tuple or len(paper) != len(body) or not all(is_pair(share) for share in paper):
        return False
    if any(value(share) < 0 and word != "=" for share, (_, word) in zip(paper, body)):
        return False
    sums = [sum((value(share) * value(form[0][k]) for share, (form, _) in zip(paper, body)), Fraction(0)) for k in range(draws)]
    sums.append(sum((value(share) * value(form[2]) for share, (form, _) in zip(paper, body)), Fraction(0)))
    constant = sum((value(share) * value(form[1]) for share, (form, _) in zip(paper, body)), Fraction(0))
    counts = any(value(share) > 0 and word == "<" for share, (_, word) in zip(paper, body))
    return not any(sums) and (constant > 0 or (constant == 0 and counts))
