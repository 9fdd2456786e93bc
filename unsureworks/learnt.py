"""Learnt: what sayings tell of one another, and what is told by a look."""

from unsureworks.chances import chance_given, chance_seen
from unsureworks.making import lumps_of
from unsureworks.matters import refuse_unfit
from unsureworks.measures import measure_where
from unsureworks.numbers import less, over, plus, times
from unsureworks.polynomials import at
from unsureworks.stepcurves import ahead_at, heap_step, step_scaled, steps_added
from unsureworks.values import spread_of


def are_apart(world, program, saying, further, seen):
    """Whether the chance that two sayings hold is the product of their chances, given what was seen."""
    refuse_unfit(len(world), program, [], [saying, further, seen], 0)
    one = chance_given(world, program, saying, seen)
    other = chance_given(world, program, further, seen)
    return chance_given(world, program, ("and", saying, further), seen) == times(one, other)


def tie_at(world, program, name, saying, seen):
    """Any fraction t for which "name is at most t" and a saying are not apart, given what was seen, or None."""
    refuse_unfit(len(world), program, [name], [saying, seen], 1)
    share = chance_given(world, program, saying, seen)
    both = saying if seen is None else ("and", seen, saying)
    so = _heaped_where(world, program, name, both)
    expected = step_scaled(_heaped_where(world, program, name, seen), share)
    return _place_not_at_0(steps_added(so, step_scaled(expected, (-1, 1))))


def _heaped_where(world, program, name, saying):
    """The step curve that is at each t the chance that a saying, or None, holds and a name is at most t."""
    lumps, curve = measure_where(world, program, name, [], saying)
    return heap_step(curve, lumps)


def _place_not_at_0(curve):
    """Any fraction at which a step curve, that is heaped up and is 0 outside of all knots, is not 0, or None."""
    items = curve[1]
    for place, (knot, _, polynomial) in enumerate(items):
        if polynomial != ():
            # A polynomial is 0 at no more places than its degree.
            step = over(less(items[place + 1][0], knot), (len(polynomial) + 1, 1))
            spots = [plus(knot, times(step, (count, 1))) for count in range(1, len(polynomial) + 1)]
            return [spot for spot in spots if at(polynomial, spot)[0] != 0][0]
    return None


def look(world, program, name, cuts, seen):
    """The tuple of the chances that a name lies in each of the stretches between cuts, given what was seen."""
    refuse_unfit(len(world), program, [name], [seen], 2)
    return tuple(_in_stretches(spread_of(world, program, name, seen), cuts))


def _in_stretches(measure, cuts):
    """The list of what a measure has in each of the stretches between cuts."""
    lumps, curve = measure
    step = heap_step(curve, lumps)
    ends = [item[1] for item in step[1][-1:]]
    heaps = [(0, 1)] + [ahead_at(step, cut) for cut in cuts] + (ends or [(0, 1)])
    return [less(high, low) for low, high in zip(heaps, heaps[1:])]


def helped(world, program, name, looked, cuts, seen):
    """The spread of the mean of a name, once it is told in which of the stretches between cuts another one lies."""
    refuse_unfit(len(world), program, [name, looked], [seen], 2)
    share = chance_seen(world, program, seen)
    chances = _in_stretches(measure_where(world, program, looked, [], seen), cuts)
    sums = _in_stretches(measure_where(world, program, looked, [name], seen), cuts)
    means = [(over(total, chance), over(chance, share)) for chance, total in zip(chances, sums) if chance[0] != 0]
    return lumps_of(means), ()
