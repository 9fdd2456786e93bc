"""Grids: polynomials of several variables with integers for factors.

A grid of no variables is an integer, a grid of more is the list of the grids, of the other variables, that are the
factors of the powers of the first one, that of power 0 first. [] is 0 everywhere; last factors may be 0. A line of so
many variables has an integer for each, and a constant behind them. All grids here are of one variable or more, and
deep tells of how many; with none ahead of it, "put" tells what is put in the place of the first one.
"""

from math import lcm

from unsureworks.rows import rows_added


def grid_of(rows):
    """The grid that is the product of rows, one for each variable."""
    grid = rows[-1]
    for deep in range(1, len(rows)):
        grid = [grid_scaled(grid, factor, deep) for factor in rows[-deep - 1]]
    return grid


def grid_scaled(grid, by, deep):
    """The product of a grid and an integer."""
    if deep == 1:
        return [factor * by for factor in grid] if by != 0 else []
    return [grid_scaled(inner, by, deep - 1) for inner in grid] if by != 0 else []


def grids_added(one, other, deep):
    """The sum of two grids."""
    if deep == 1:
        return rows_added(one, other)
    brief, wide = (one, other) if len(one) < len(other) else (other, one)
    return [grids_added(first, second, deep - 1) for first, second in zip(brief, wide)] + wide[len(brief):]


def grid_times(grid, line):
    """The product of a grid and a line."""
    deep = len(line) - 1
    steep = line[0]
    if deep == 1:
        level = line[1]
        if steep == 0:
            return [factor * level for factor in grid]
        return [factor * level + ahead * steep for factor, ahead in zip(grid + [0], [0] + grid)]
    rest = line[1:]
    found = [grid_times(inner, rest) for inner in grid]
    if steep == 0:
        return found
    return grids_added(found, [[]] + [grid_scaled(inner, steep, deep - 1) for inner in grid], deep)


def grid_heap(grid, deep):
    """The pair of a grid and of an integer: divided by it, it is what is heaped up of a grid over the first variable.

    There are two variables or more.
    """
    under = 1
    for power in range(2, len(grid) + 1):
        under = lcm(under, power)
    return [[]] + [grid_scaled(inner, under // (power + 1), deep - 1) for power, inner in enumerate(grid)], under


def grid_put(grid, line, under):
    """The pair of a grid of the other variables and of an integer: divided by it, it is a grid of two or more.

    In the place of the first variable a line of the other ones is put, divided by under.
    """
    deep = len(line) - 1
    found, power = [], 1
    for inner in grid[::-1]:
        found = grids_added(grid_times(found, line), grid_scaled(inner, power, deep), deep)
        power *= under
    return found, power // under if grid else 1
