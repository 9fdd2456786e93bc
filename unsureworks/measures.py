"""Measures: how worlds, or what is asked of them, are spread over what a name comes to.

A measure is a pair (lumps, curve) as a spread is one, but that it may make any number together, and may be below 0.
"""

from unsureworks.curves import curve_scaled, tidied
from unsureworks.forms import names_in
from unsureworks.making import lumps_of
from unsureworks.numbers import over, times
from unsureworks.portions import measure_of
from unsureworks.regions import boxes_of, regions_in, regions_where
from unsureworks.sweeps import swept


def measure_where(world, program, name, asked, saying):
    """The measure of all worlds in which a saying holds, or of all for None, over what a name comes to.

    Each world counts as much as the product of what the names asked come to.
    """
    names = [name] + asked + ([] if saying is None else names_in(saying))
    lumps, pieces = [], []
    for box in boxes_of(world):
        for region in regions_where(regions_in(box, program, names), saying):
            further, more = measure_of(box, region, name, asked)
            lumps += further
            pieces += more
    _, steps = swept(pieces)
    ends = [place for place, _ in steps[1:]]
    return lumps_of(lumps), tidied([(low, high, p) for (low, p), high in zip(steps, ends)])


def measure_over(measure, share):
    """A measure divided by a fraction other than 0."""
    lumps, curve = measure
    by = over((1, 1), share)
    return tuple([(place, times(weight, by)) for place, weight in lumps]), curve_scaled(curve, by)
