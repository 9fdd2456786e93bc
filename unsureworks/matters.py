"""What matters: the lines on which names and sayings hang, and how much of it there may be."""

from unsureworks.bounds import MAX_DRAWS, MAX_MATTER, MAX_MATTER_THREE
from unsureworks.errors import TooMany, Unfit
from unsureworks.forms import compared_in, hung_on, is_choice, names_in


def refuse_shifts(draws, program, names, sayings):
    """Raise Unfit if a name, or a saying that is not None, hangs on the name of a shift."""
    if any([line[0] == "shift" for line in _lines_for(draws, program, names, sayings)]):
        raise Unfit()


def refuse_many(draws, program, names, sayings, more):
    """Raise TooMany if the choices on which all of them hang, what is compared in sayings, and more are too many."""
    choices = [line for line in _lines_for(draws, program, names, sayings) if is_choice(line)]
    compared = sum([len(compared_in(saying)) for saying in sayings if saying is not None])
    limit = MAX_MATTER_THREE if draws == MAX_DRAWS else MAX_MATTER
    if len(choices) + compared + more > limit:
        raise TooMany(limit)


def refuse_unfit(draws, program, names, sayings, more):
    """Raise Unfit, then TooMany, as refuse_shifts and refuse_many do."""
    refuse_shifts(draws, program, names, sayings)
    refuse_many(draws, program, names, sayings, more)


def _lines_for(draws, program, names, sayings):
    """The list of the lines on which names, and sayings that are not None, hang."""
    told = list(names)
    for saying in sayings:
        if saying is not None:
            told += names_in(saying)
    return [program[name - draws] for name in hung_on(draws, program, told) if name >= draws]
