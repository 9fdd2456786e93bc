"""Cones: sets of vectors that are sums of lines, each times any number, and of rays, each times one from 0 on.

A vector is a tuple of integers, the last one at least 0. If this is above 0, the vector stands for a point: its other
numbers divided by it. So a cone tells what some comparisons, each with "<=" or "=", leave of all points. A cone is a
triple (lines, rays, many): lines is a list of vectors, any of which may be turned round; rays is a list of pairs of a
vector and of an integer whose bits tell in which of the many comparisons made so far it comes to 0, but for the first
bit, which tells whether its last number is 0. No line and no ray can be left out.

The inside of a cone is what all lines and rays, each of them taken, make together: all of it but its own sides.
"""

from unsureworks.rows import plain_row


def all_points(size):
    """The cone of all points of vectors with so many numbers."""
    lines = [tuple([1 if place == along else 0 for place in range(size)]) for along in range(size - 1)]
    return lines, [((0,) * (size - 1) + (1,), 0)], 1


def worth_at(form, vector):
    """What a form, as a vector of factors, comes to at a vector."""
    return sum([factor * number for factor, number in zip(form, vector)])


def side_of(cone, form):
    """-1, 0 or 1 if a form comes to less than 0, to 0, or to more everywhere inside a cone; None otherwise."""
    lines, rays, _ = cone
    if any([worth_at(form, line) != 0 for line in lines]):
        return None
    heights = [worth_at(form, vector) for vector, _ in rays]
    below, above = min(heights, default=0) < 0, max(heights, default=0) > 0
    if below and above:
        return None
    return above - below


def halves_of(cone, form):
    """The triple of the cones of all in a cone at which a form comes to 0 or less, to 0, to 0 or more."""
    lines, below, level, above = _parted(cone, form)
    many = cone[2] + 1
    return (lines, below + level, many), (lines, level, many), (lines, above + level, many)


def kept(cone, form, word):
    """The cone of all in a cone at which a form comes to 0, or for other words than "=" also to less than 0."""
    below, level, _ = halves_of(cone, form)
    return level if word == "=" else below


def inner_point(cone):
    """A vector inside a cone that stands for a point, or None if the cone has no point."""
    total = None
    for vector, _ in cone[1]:
        total = vector if total is None else together(total, vector)
    if total is None or total[-1] == 0:
        return None
    return tuple(plain_row(total))


def together(one, other):
    """The sum of two vectors."""
    return tuple([first + second for first, second in zip(one, other)])


def _parted(cone, form):
    """The lines at which a form comes to 0, and the lists of rays with which they make the halves of a cone.

    The first list has those at which the form comes to less than 0, the second one those at which it comes to 0, the
    third one those at which it comes to more.
    """
    lines, rays, many = cone
    for place, line in enumerate(lines):
        if worth_at(form, line) != 0:
            return _parted_along(cone, form, place)
    bit = 1 << many
    below, level, above = [], [], []
    for vector, tight in rays:
        height = worth_at(form, vector)
        if height < 0:
            below.append((vector, tight))
        elif height > 0:
            above.append((vector, tight))
        else:
            level.append((vector, tight | bit))
    masks = [tight for _, tight in rays]
    for vector, tight in below:
        for further, mask in above:
            common = tight & mask
            if _are_beside(masks, common):
                level.append((_crossing(form, vector, further), common | bit))
    return lines, below, level, above


def _are_beside(masks, common):
    """Whether just two of all rays, told by their masks, come to 0 in all of the comparisons common to these two."""
    return len([mask for mask in masks if mask & common == common]) == 2


def _crossing(form, low, high):
    """A vector between two others at which a form comes to 0; at low it comes to less, at high to more."""
    down, up = -worth_at(form, low), worth_at(form, high)
    return tuple(plain_row([up * first + down * second for first, second in zip(low, high)]))


def _parted_along(cone, form, place):
    """What _parted returns, with the place of a line at which the form does not come to 0.

    All else can be moved along this line to where the form comes to 0.
    """
    lines, rays, many = cone
    line = lines[place]
    if worth_at(form, line) > 0:
        line = tuple([-number for number in line])
    back = tuple([-number for number in line])
    left = [_moved_along(form, line, other) for other in lines[:place] + lines[place + 1:]]
    level = [(_moved_along(form, line, vector), tight | 1 << many) for vector, tight in rays]
    before = (1 << many) - 1
    return left, [(line, before)], level, [(back, before)]


def _moved_along(form, line, vector):
    """A vector, or a multiple of it, moved along a line, at which a form comes to less than 0, to where it is 0."""
    down, height = -worth_at(form, line), worth_at(form, vector)
    return tuple(plain_row([down * number + height * along for number, along in zip(vector, line)]))
