"""Chances and means: what all boxes of a world have together."""

from unsureworks.errors import NoChance
from unsureworks.forms import names_in
from unsureworks.matters import refuse_unfit
from unsureworks.numbers import over, plus
from unsureworks.portions import portion_of
from unsureworks.regions import boxes_of, regions_in, regions_where


def chance(world, program, saying):
    """The chance of a saying."""
    return chance_given(world, program, saying, None)


def chance_given(world, program, saying, seen):
    """The chance of a saying, given what was seen."""
    refuse_unfit(len(world), program, [], [saying, seen], 0)
    if seen is None:
        return total_where(world, program, [], saying)
    share = chance_seen(world, program, seen)
    return over(total_where(world, program, [], ("and", seen, saying)), share)


def mean_of(world, program, name, seen):
    """The mean of a name, given what was seen."""
    return _mean_asked(world, program, [name], seen)


def mean_product(world, program, one, other, seen):
    """The mean of the product of two names, given what was seen."""
    return _mean_asked(world, program, [one, other], seen)


def _mean_asked(world, program, asked, seen):
    """The mean of the product of some names, given what was seen."""
    refuse_unfit(len(world), program, asked, [seen], 0)
    share = chance_seen(world, program, seen)
    return over(total_where(world, program, asked, seen), share)


def chance_seen(world, program, seen):
    """The chance of what was seen, 1 for None; it is above 0."""
    if seen is None:
        return 1, 1
    share = total_where(world, program, [], seen)
    if share[0] == 0:
        raise NoChance()
    return share


def total_where(world, program, asked, saying):
    """The sum of the portions of all boxes for a saying, or None, with the product of some names asked."""
    total = (0, 1)
    names = asked if saying is None else asked + names_in(saying)
    for box in boxes_of(world):
        for region in regions_where(regions_in(box, program, names), saying):
            total = plus(total, portion_of(box, region, asked))
    return total
