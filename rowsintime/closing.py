"""Closed tables: each bound as tight as can be."""

from rowsintime.bounds import lower_of, upper_of
from rowsintime.errors import Empty
from rowsintime.grids import check_alike_names, closed_grid, grid_of, table_of
from rowsintime.points import ring


def filled_grid(table):
    """The closed grid of a table that has to have a point."""
    grid = closed_grid(table)
    if grid is None:
        raise Empty(ring(table))
    return grid


def closed(table):
    """The table with the same points, each of whose bounds is as tight as can be."""
    return table_of(table.names(), filled_grid(table))


def spread(table, one, other):
    """The stretch of what one is more than other, in all points."""
    # Asked for its errors: they come ahead of that of a table without a point.
    table.bound(one, other)
    grid = filled_grid(table)
    spots = [""] + table.names()
    high = spots.index(one)
    low = spots.index(other)
    return (lower_of(grid[low][high]), upper_of(grid[high][low]))


def alike(one, other):
    """Whether two tables have the same points."""
    return within(one, other) and within(other, one)


def within(one, other):
    """Whether all points of the one are points of the other."""
    check_alike_names(one, other)
    inner = closed_grid(one)
    if inner is None:
        return True
    outer = grid_of(other)
    pairs = [(i, j) for i in range(len(inner)) for j in range(len(inner))]
    return all([is_as_tight(inner[i][j], outer[i][j]) for i, j in pairs])


def is_as_tight(one, other):
    """Whether a bound's code is as tight as another one, or tighter."""
    return other is None or (one is not None and one <= other)
