"""Ways: how a program may go, by what is chosen in it, and how what is said of it may come out.

A way is a pair of a part, of all points at which it is gone, and of a list of what is known there. A part is a triple
of a body, of its comparisons' rows, and of the cone that they leave. Parts that have no point are left out.
"""

from unsureworks.bodies import rows_of, spot_of
from unsureworks.cones import all_points, kept
from unsureworks.forms import constant_form, draw_form, forms_added, hung_on, is_choice, is_constant, signs_of
from unsureworks.numbers import order, plus


def part_of(draws, body):
    """The part of all points at which a body holds, or None if there is none."""
    return _narrowed(((), [], all_points(draws + 2)), body)


def ways_of(draws, program, names, part):
    """The list of all ways within a part, each with the list of the forms of all names.

    Only what the names given hang on is looked at; other lines have None for their forms.
    """
    needed = hung_on(draws, program, names)
    ways = [(part, [draw_form(draws, draw) for draw in range(draws)])]
    for place, line in enumerate(program):
        further = []
        for ahead, forms in ways:
            outcomes = _forms_of(line, forms) if draws + place in needed else [((), None)]
            further += [(_narrowed(ahead, body), forms + [form]) for body, form in outcomes]
        ways = [way for way in further if way[0] is not None]
    return ways


def truths_of(part, forms, compared):
    """The list of all ways within a part to come out for compared sayings, each with a list of pairs.

    A pair has a compared saying and whether it is true.
    """
    ways = [(part, [])]
    for word, a, b in compared:
        further = []
        for ahead, truths in ways:
            for body, truth in _outcomes_of(word, forms[a], forms[b]):
                further.append((_narrowed(ahead, body), truths + [((word, a, b), truth)]))
        ways = [way for way in further if way[0] is not None]
    return ways


def _narrowed(part, body):
    """The part of all points of a part at which a body holds, too, or None if there is none."""
    ahead, rows, cone = part
    if body == ():
        return part
    more = rows_of(body)
    for vector, word in more:
        cone = kept(cone, vector, word)
    if spot_of(cone, rows + more) is None:
        return None
    return ahead + body, rows + more, cone


def form_of_line(forms, line):
    """The form that a line that does not choose has, the names ahead having forms."""
    if line[0] == "shift":
        factors, constant, by = forms[line[1]]
        return factors, constant, plus(by, line[2])
    total = constant_form(len(forms[0][0]), line[2])
    for factor, name in line[1]:
        total = forms_added(total, forms[name], factor)
    return total


def choice_of(line):
    """What a line that chooses says, as a choice does: a tuple (a, word, b, x, y)."""
    if line[0] == "choice":
        return line[1:]
    _, a, b = line
    return (a, "<", b, b, a) if line[0] == "greatest" else (a, "<", b, a, b)


def _forms_of(line, forms):
    """The list of pairs of a body and of the form that a line has where this holds, the names ahead having forms."""
    if not is_choice(line):
        return [((), form_of_line(forms, line))]
    a, compared, b, x, y = choice_of(line)
    outcomes = _outcomes_of(compared, forms[a], forms[b])
    return [(body, forms[x] if truth else forms[y]) for body, truth in outcomes]


def _outcomes_of(word, one, other):
    """The list of pairs of a body and of whether, where it holds, two forms compare as the word tells."""
    difference = forms_added(one, other, (-1, 1))
    contrary = forms_added(other, one, (-1, 1))
    if is_constant(difference):
        return [((), order(difference[1], (0, 1)) in signs_of(word))]
    if word == "<":
        return [(((difference, "<"),), True), (((contrary, "<="),), False)]
    if word == "<=":
        return [(((difference, "<="),), True), (((contrary, "<"),), False)]
    return [(((difference, "="),), True), (((difference, "<"),), False), (((contrary, "<"),), False)]
