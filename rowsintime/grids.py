"""Grids: the bounds of tables as rows of codes, by which all else is reckoned.

A grid has a row and a column for the begin, as 0, and for each name, in order; grid[i][j] is the code of
the bound of what i is more than j, that of "upto 0" where i is j. A grid is CLOSED if each of its bounds is
as tight as can be. No function here changes a grid that it is passed.
"""

from rowsintime.bounds import UPTO_ZERO, code_of, code_sum, looser_code, tighter_code, upper_of
from rowsintime.errors import UnlikeNames
from rowsintime.tables import Table


def check_alike_names(one, other):
    if one.names() != other.names():
        raise UnlikeNames()


def grid_of(table):
    spots = [""] + table.names()
    bounds = table.bounds()
    grid = [[code_of(bounds.get((one, other))) for other in spots] for one in spots]
    for at in range(len(spots)):
        grid[at][at] = UPTO_ZERO
    return grid


def table_of(names, grid):
    spots = list(enumerate([""] + names))
    return Table(names, {(one, other): upper_of(grid[i][j]) for i, one in spots for j, other in spots if i != j})


def shut(grid):
    """The closed grid with the same points, None if there are none."""
    size = len(grid)
    for way in range(size):
        grid = [[tighter_code(row[at], code_sum(row[way], grid[way][at])) for at in range(size)] for row in grid]
        # Sums along a ring that bars the grid would grow and grow: there is no use in going on.
        if any([grid[at][at] < UPTO_ZERO for at in range(size)]):
            return None
    return grid


def closed_grid(table):
    """The closed grid of a table, None if it has no point."""
    return shut(grid_of(table))


def bounded(grid, one, other, code):
    """The closed grid of the points of a closed one that keep one bound more, None if there are none."""
    ring_sum = code_sum(grid[other][one], code)
    if ring_sum is not None and ring_sum < UPTO_ZERO:
        return None
    size = len(grid)
    tail = [code_sum(code, grid[other][at]) for at in range(size)]
    return [[tighter_code(row[at], code_sum(row[one], tail[at])) for at in range(size)] for row in grid]


def tighter_grid(one, other):
    """The tighter one of two bounds at each place; not closed."""
    size = len(one)
    return [[tighter_code(one[i][j], other[i][j]) for j in range(size)] for i in range(size)]


def looser_grid(one, other):
    """The looser one of two bounds at each place; closed if both grids are."""
    size = len(one)
    return [[looser_code(one[i][j], other[i][j]) for j in range(size)] for i in range(size)]
