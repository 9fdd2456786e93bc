"""Forms, programs and sayings: what is reckoned with draws, and what is said of it."""

from unsureworks.bounds import MAX_CHOICES, MAX_COMPARED, MAX_LINES, MAX_NESTED
from unsureworks.numbers import greater_of, is_fraction, is_integer, lesser_of, order, plus, times


def program_error(draws, value):
    """None if value, any value, is a program for so many draws; otherwise what is wrong with it."""
    if not isinstance(value, tuple) or len(value) > MAX_LINES:
        return "form"
    choices = 0
    for place, item in enumerate(value):
        if not _is_line_behind(item, draws + place):
            return ("line", place)
        if is_choice(item):
            choices += 1
        if choices > MAX_CHOICES:
            return ("line", place)
    return None


def is_choice(line):
    """Whether a line is one that chooses."""
    return line[0] in ("greatest", "least", "choice")


def _is_line_behind(value, names):
    """Whether value, any value, is a line in which all names are less than names."""
    return is_line(value, lambda name: is_integer(name) and 0 <= name and name < names)


def is_line(value, is_named):
    """Whether value, any value, is a line, is_named telling of any value whether it can be a name there."""
    if not isinstance(value, tuple) or len(value) < 3:
        return False
    if value[0] == "sum" and len(value) == 3:
        return _are_terms(value[1], is_named) and is_fraction(value[2])
    if (value[0] == "greatest" or value[0] == "least") and len(value) == 3:
        return is_named(value[1]) and is_named(value[2])
    if value[0] == "choice" and len(value) == 6:
        return is_word(value[2]) and all([is_named(value[place]) for place in (1, 3, 4, 5)])
    if value[0] == "shift" and len(value) == 3:
        return is_named(value[1]) and is_fraction(value[2])
    return False


def is_word(value):
    """Whether value, any value, is a word that compares."""
    return value == "<" or value == "<=" or value == "="


def _are_terms(value, is_named):
    """Whether value, any value, is a tuple of pairs (fraction, name), the names ascending."""
    if not isinstance(value, tuple):
        return False
    for place, item in enumerate(value):
        if not isinstance(item, tuple) or len(item) != 2 or not is_fraction(item[0]) or not is_named(item[1]):
            return False
        if place > 0 and item[1] <= value[place - 1][1]:
            return False
    return True


def saying_error(names, value):
    """None if value, any value, is a saying whose names are all less than names; otherwise what is wrong with it."""
    if not is_saying(value, lambda name: is_integer(name) and name >= 0):
        return "form"
    return "name" if max(names_in(value)) >= names else None


def is_saying(value, is_named):
    """Whether value, any value, is a saying, is_named telling of any value whether it can be a name there."""
    return _has_form_of_saying(value, is_named, MAX_NESTED) and len(compared_in(value)) <= MAX_COMPARED


def _has_form_of_saying(value, is_named, deep):
    """Whether value, any value, is a saying at most so deep, but for its number of comparisons."""
    if not isinstance(value, tuple) or len(value) < 2 or deep == 0:
        return False
    if is_word(value[0]):
        return len(value) == 3 and is_named(value[1]) and is_named(value[2])
    if value[0] == "not" and len(value) == 2:
        return _has_form_of_saying(value[1], is_named, deep - 1)
    if (value[0] == "and" or value[0] == "or") and len(value) == 3:
        return all([_has_form_of_saying(part, is_named, deep - 1) for part in value[1:]])
    return False


def compared_in(saying):
    """The list of all compared sayings in a saying, each as often as it stands there."""
    if saying[0] == "not":
        return compared_in(saying[1])
    if saying[0] == "and" or saying[0] == "or":
        return compared_in(saying[1]) + compared_in(saying[2])
    return [saying]


def names_in(saying):
    """The list of all names in a saying, each as often as it stands there."""
    return [name for _, a, b in compared_in(saying) for name in (a, b)]


def hung_on(draws, program, names):
    """The ascending list of all names on which some names of a program hang."""
    marked = {name: True for name in names}
    for place in range(len(program) - 1, -1, -1):
        if draws + place in marked:
            for name in names_in_line(program[place]):
                marked[name] = True
    return sorted(marked)


def names_in_line(line):
    """The list of the names in a line."""
    if line[0] == "sum":
        return [name for _, name in line[1]]
    if line[0] == "shift":
        return [line[1]]
    if line[0] == "choice":
        return [line[1], line[3], line[4], line[5]]
    return [line[1], line[2]]


def is_form(draws, value):
    """Whether value, any value, is a form for so many draws."""
    if not isinstance(value, tuple) or len(value) != 3:
        return False
    factors, constant, by = value
    if not isinstance(factors, tuple) or len(factors) != draws or not all([is_fraction(f) for f in factors]):
        return False
    return is_fraction(constant) and is_fraction(by)


def form_at(form, numbers, t):
    """What a form comes to at values of the draws and a t."""
    factors, constant, by = form
    total = plus(constant, times(by, t))
    for factor, number in zip(factors, numbers):
        total = plus(total, times(factor, number))
    return total


def run(program, numbers, t):
    """The tuple of what all names come to at values of the draws and a t."""
    values = list(numbers)
    for line in program:
        values.append(_worth_of(line, values, t))
    return tuple(values)


def _worth_of(line, values, t):
    """What a line comes to, the names ahead of it coming to values."""
    word = line[0]
    if word == "sum":
        total = line[2]
        for factor, name in line[1]:
            total = plus(total, times(factor, values[name]))
        return total
    if word == "shift":
        return plus(values[line[1]], times(line[2], t))
    if word == "choice":
        _, a, compared, b, x, y = line
        return values[x] if _compares(compared, values[a], values[b]) else values[y]
    first, second = values[line[1]], values[line[2]]
    return greater_of(first, second) if word == "greatest" else lesser_of(first, second)


def holds(saying, values):
    """Whether a saying is true of what all names come to."""
    return is_true(saying, {(word, a, b): _compares(word, values[a], values[b]) for word, a, b in compared_in(saying)})


def is_true(saying, truths):
    """Whether a saying is true if the compared sayings in it are so as a dict tells."""
    if saying[0] == "not":
        return not is_true(saying[1], truths)
    if saying[0] == "and":
        return is_true(saying[1], truths) and is_true(saying[2], truths)
    if saying[0] == "or":
        return is_true(saying[1], truths) or is_true(saying[2], truths)
    return truths[saying]


def _compares(word, f, g):
    """Whether a fraction is less than another one, not greater, or equal, by the word."""
    return order(f, g) in signs_of(word)


def signs_of(word):
    """The signs that what is compared with 0 may have, by the word."""
    if word == "<":
        return (-1,)
    return (-1, 0) if word == "<=" else (0,)


def draw_form(draws, draw):
    """The form that comes to what a draw does."""
    return tuple([(1, 1) if place == draw else (0, 1) for place in range(draws)]), (0, 1), (0, 1)


def constant_form(draws, constant):
    """The form that comes to a fraction everywhere."""
    return ((0, 1),) * draws, constant, (0, 1)


def forms_added(one, other, f):
    """The form that comes to one and f times other."""
    factors = tuple([plus(g, times(h, f)) for g, h in zip(one[0], other[0])])
    return factors, plus(one[1], times(other[1], f)), plus(one[2], times(other[2], f))


def is_constant(form):
    """Whether a form comes to the same everywhere."""
    factors, _, by = form
    return by[0] == 0 and all([factor[0] == 0 for factor in factors])
