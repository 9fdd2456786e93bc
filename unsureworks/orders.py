"""Orders of spreads: which one is later, which one is worse, how close two are, each with papers."""

from unsureworks.dips import place_below
from unsureworks.numbers import less, merged
from unsureworks.polynomials import added, at, constant_of, heap_of, scaled
from unsureworks.signs import sign_holds, sign_paper
from unsureworks.spreads import heaped
from unsureworks.stepcurves import parts_at


def later_at(one, other):
    """Any fraction at which one spread is later than the other one, or None."""
    return _place_in(_differences(one, other))


def never_later_paper(one, other):
    """Any paper that shows that one spread is nowhere later than the other one."""
    return _papers(_differences(one, other))


def never_later_holds(one, other, value):
    """Whether value, any value, is such a paper."""
    return _papers_hold(_differences(one, other), value)


def worse_at(one, other):
    """Any fraction at which one spread is worse than the other one, or None."""
    return _place_in(_heaped_differences(one, other))


def never_worse_paper(one, other):
    """Any paper that shows that one spread is nowhere worse than the other one."""
    return _papers(_heaped_differences(one, other))


def never_worse_holds(one, other, value):
    """Whether value, any value, is such a paper."""
    return _papers_hold(_heaped_differences(one, other), value)


def close_paper(one, other, gap):
    """Any paper that shows that what two spreads have heaped up differs nowhere by more than gap."""
    return tuple([_papers(both) for both in _both_gaps(one, other, gap)])


def close_holds(one, other, gap, value):
    """Whether value, any value, is such a paper."""
    stretches = _both_gaps(one, other, gap)
    if not isinstance(value, tuple) or len(value) != len(stretches):
        return False
    return all([_papers_hold(both, papers) for both, papers in zip(stretches, value)])


def _differences(one, other):
    """For each stretch of two spreads a triple of its ends and of what one has heaped up less what other has."""
    first, second = heaped(one), heaped(other)
    knots = merged([item[0] for item in first[1]], [item[0] for item in second[1]])
    found = []
    for low, high, (_, p), (_, q) in zip(knots, knots[1:], parts_at(first, knots), parts_at(second, knots)):
        found.append((low, high, added(p, scaled(q, (-1, 1)))))
    return found


def _heaped_differences(one, other):
    """For each stretch the same of what is heaped up once more, of other less one."""
    found = []
    ahead = ()
    for low, high, difference in _differences(other, one):
        rising = heap_of(difference)
        ahead = added(rising, constant_of(less(at(ahead, low), at(rising, low))))
        found.append((low, high, ahead))
    return found


def _both_gaps(one, other, gap):
    """For each stretch a pair of triples of its ends, and of gap less the difference, and of gap and the difference."""
    room = constant_of(gap)
    found = []
    for low, high, difference in _differences(one, other):
        found.append(((low, high, added(room, scaled(difference, (-1, 1)))), (low, high, added(room, difference))))
    return found


def _place_in(stretches):
    """Any fraction at which the polynomial of a stretch is below 0, or None.

    It lies between the ends: at the high of a stretch what is asked may have leapt.
    """
    for low, high, polynomial in stretches:
        place = None if polynomial == () else place_below(polynomial, low, high)
        if place is not None:
            return place
    return None


def _papers(stretches):
    """The tuple of a sign paper for each stretch; a place of BelowAt lies between the ends, as _place_in asks for."""
    return tuple([sign_paper(polynomial, low, high) for low, high, polynomial in stretches])


def _papers_hold(stretches, value):
    """Whether value, any value, is a tuple of a sign paper for each stretch."""
    if not isinstance(value, tuple) or len(value) != len(stretches):
        return False
    return all([sign_holds(polynomial, low, high, paper) for (low, high, polynomial), paper in zip(stretches, value)])
