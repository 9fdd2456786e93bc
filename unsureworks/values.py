"""Values: the spreads of names, and whether two names come to the same."""

from unsureworks.bodies import point_of, spot_apart, vector_of
from unsureworks.chances import chance, chance_seen
from unsureworks.cones import inner_point
from unsureworks.errors import NotParts, Shared
from unsureworks.forms import constant_form, draw_form, forms_added, hung_on, names_in_line
from unsureworks.making import greater, grown, joined, lesser
from unsureworks.matters import refuse_shifts, refuse_unfit
from unsureworks.measures import measure_over, measure_where
from unsureworks.regions import boxes_of, is_piece
from unsureworks.spreads import lump
from unsureworks.ways import part_of, truths_of, ways_of


def spread_of(world, program, name, seen):
    """The spread of what a name comes to, given what was seen."""
    refuse_unfit(len(world), program, [name], [seen], 0)
    share = chance_seen(world, program, seen)
    return measure_over(measure_where(world, program, name, [], seen), share)


def by_parts(world, program, name):
    """The spread of what a name comes to, made of the draws' spreads, none of which is met twice."""
    draws = len(world)
    refuse_shifts(draws, program, [name], [])
    hung = hung_on(draws, program, [name])
    for other in hung:
        if other >= draws and program[other - draws][0] == "choice":
            raise NotParts(other)
    met = _times_met(draws, program, name)
    for draw in range(draws):
        if met[draw] > 1:
            raise Shared(draw)
    return _made_of_parts(program, name, list(world) + [None] * len(program), draws)


def _times_met(draws, program, name):
    """The list of how often each name stands in a name that is written out."""
    met = [0] * (draws + len(program))
    met[name] = 1
    for place in range(len(program) - 1, -1, -1):
        for other in names_in_line(program[place]):
            met[other] = met[other] + met[draws + place]
    return met


def _made_of_parts(program, name, made, draws):
    """The spread of a name, made of those of the names in its line; made has those of all names that are made so far.

    Each name is made once, where it is first met; what is made is put there.
    """
    if made[name] is None:
        line = program[name - draws]
        if line[0] == "sum":
            total = lump(line[2])
            for factor, other in line[1]:
                total = joined(total, grown(_made_of_parts(program, other, made, draws), factor))
        else:
            one = _made_of_parts(program, line[1], made, draws)
            other = _made_of_parts(program, line[2], made, draws)
            total = greater(one, other) if line[0] == "greatest" else lesser(one, other)
        made[name] = total
    return made[name]


def unlike_at(world, program, one, other):
    """Any numbers of a world at which two names come to unlike fractions, or None."""
    refuse_unfit(len(world), program, [one, other], [], 1)
    for (_, _, cone), forms in _ways_in(world, program, [one, other]):
        vector = spot_apart(cone, vector_of(forms_added(forms[one], forms[other], (-1, 1)))[0])
        if vector is not None:
            return point_of(vector)[0]
    return None


def above_at(world, program, one, other):
    """Any numbers of a world at which the first one of two names comes to more than the second one, or None."""
    refuse_unfit(len(world), program, [one, other], [], 1)
    for part, forms in _ways_in(world, program, [one, other]):
        for (_, _, cone), truths in truths_of(part, forms, [("<", other, one)]):
            if truths[0][1]:
                return point_of(inner_point(cone))[0]
    return None


def _ways_in(world, program, names):
    """The list of all ways for names of a program in which numbers of a world can go."""
    found = []
    for box in boxes_of(world):
        found += ways_of(len(world), program, names, part_of(len(world), _body_of(box)))
    return found


def _body_of(box):
    """The body that holds just at the numbers of a world that are in a box."""
    body = ()
    for draw, item in enumerate(box):
        form = draw_form(len(box), draw)
        if is_piece(item):
            low, high, _ = item
            body += ((forms_added(constant_form(len(box), low), form, (-1, 1)), "<"),)
            body += ((forms_added(form, constant_form(len(box), high), (-1, 1)), "<"),)
        else:
            body += ((forms_added(form, constant_form(len(box), item[0]), (-1, 1)), "="),)
    return body


def surely_alike(world, program, one, other):
    """Whether two names come to unlike fractions with the chance 0."""
    return chance(world, program, ("=", one, other)) == (1, 1)


def alike_in_spread(world, program, one, other):
    """Whether two names have the same spread."""
    refuse_unfit(len(world), program, [one, other], [], 1)
    return spread_of(world, program, one, None) == spread_of(world, program, other, None)
