"""Curves of one unknown t: chances for all t at once, and which one of two names is sooner."""

from unsureworks.chances import chance_seen
from unsureworks.forms import names_in
from unsureworks.matters import refuse_many, refuse_shifts
from unsureworks.numbers import ascending, contrary, less, order, over, plus
from unsureworks.polynomials import at
from unsureworks.portions import course_of, portion_of
from unsureworks.regions import boxes_of, regions_in, regions_where
from unsureworks.roots import near, roots_of
from unsureworks.spreads import heaped
from unsureworks.stepcurves import step_scaled, steps_added, steps_tidied
from unsureworks.sweeps import swept
from unsureworks.values import spread_of


def chance_line(world, program, saying, seen):
    """The step curve of the chance of a saying, given what was seen, at each t."""
    refuse_shifts(len(world), program, [], [seen])
    refuse_many(len(world), program, [], [saying, seen], 0)
    share = chance_seen(world, program, seen)
    both = saying if seen is None else ("and", seen, saying)
    pieces, extras = [], []
    for box in boxes_of(world):
        for region in regions_where(regions_in(box, program, names_in(both)), both):
            moment = region[3]
            if moment is None:
                course = course_of(box, region)
                pieces += course
                extras += _losses_at_low(course)
            else:
                extras.append((moment, portion_of(box, region, [])))
    return step_scaled(_step_of(pieces, extras), over((1, 1), share))


def _losses_at_low(course):
    """The list of pairs of the place at which a course begins, and of what it comes to behind it, as a loss.

    A region that begins all at once at some t, not little by little, does not have this t: there another region, of
    this t alone, has what there is. Between its ends a region has no leaps.
    """
    lows = [low for low, _, _ in course]
    if None in lows:
        return []
    least = ascending(lows)[:1]
    return [(low, contrary(at(polynomial, low))) for low, _, polynomial in course if low in least]


def _step_of(pieces, extras):
    """The step curve that is the sum of pieces, at each place as it is behind it, and of extras at single places."""
    left, steps = swept(pieces)
    polynomials = {place: polynomial for place, polynomial in steps}
    more = {}
    for place, extra in extras:
        more[place] = plus(more.get(place, (0, 1)), extra)
    items = []
    ahead = left
    for place in ascending(list(polynomials) + list(more)):
        ahead = polynomials.get(place, ahead)
        items.append((place, plus(at(ahead, place), more.get(place, (0, 1))), ahead))
    return steps_tidied(at(left, (0, 1)), items)


def sooner(world, program, one, other):
    """For all t, as a tuple of parts, whether one name is sooner than another one: at most t with more chance."""
    refuse_shifts(len(world), program, [one, other], [])
    first, second = spread_of(world, program, one, None), spread_of(world, program, other, None)
    lead = steps_added(heaped(first), step_scaled(heaped(second), (-1, 1)))
    parts = []
    low, polynomial = None, ()
    for knot, worth, further in lead[1]:
        parts += _parts_between(polynomial, low, knot) + [(knot, True, knot, True, _word_of(worth))]
        low, polynomial = knot, further
    parts.append((low, False, None, False, "same"))
    return _joined_parts(parts)


def _parts_between(polynomial, low, high):
    """The list of the parts between two fractions, the first one perhaps None, in which the lead is a polynomial."""
    if len(polynomial) < 2:
        return [(low, False, high, False, _word_of(at(polynomial, (0, 1))))]
    places = [place for place in roots_of(polynomial, low, high) if place != low and place != high]
    parts = []
    for begin, end in zip([low] + places, places + [high]):
        word = _word_of(at(polynomial, _fraction_between(begin, end)))
        parts += [(begin, False, end, False, word), (end, True, end, True, "same")]
    return parts[:-1]


def _word_of(lead):
    """The word that tells of a lead."""
    if lead[0] == 0:
        return "same"
    return "more" if lead[0] > 0 else "less"


def _fraction_between(one, other):
    """Any fraction between two numbers, the place of the first one being less than that of the second one."""
    width = (1, 1)
    while True:
        low, high = plus(near(one, width), width), less(near(other, width), width)
        if order(low, high) <= 0:
            return low
        width = over(width, (2, 1))


def _joined_parts(parts):
    """The tuple of parts, neighbours with the same word being one part."""
    found = parts[:1]
    for part in parts[1:]:
        low, low_in, _, _, word = found[-1]
        if word == part[4]:
            found[-1] = (low, low_in, part[2], part[3], word)
        else:
            found.append(part)
    return tuple(found)
