"""Told times held against closed grids of times, each of one way.

TOLD here is a dict from rows of the grid to integers, with 0 for the first row, the begin.
"""

from rowsintime.bounds import is_kept
from rowsintime.gaps import doubled
from rowsintime.grids import bounded
from rowsintime.points import worths_in


def told_rows(times):
    """The told times, of the rows behind the begin, by rows; None is not told."""
    told = {at + 1: time for at, time in enumerate(times) if time is not None}
    return {0: 0, **told}


def strain(grid, told):
    """How many halves the least e has by which told times have to be moved, and whether they have to by more than e."""
    worst = (0, False)
    for i in told:
        for j in told:
            code = grid[i][j]
            if code is None:
                continue
            excess = told[i] - told[j] - code // 2
            # Two told times can both be moved, by half of the excess each; the begin cannot.
            halves = excess if i > 0 and j > 0 else 2 * excess
            worst = max(worst, (halves, code % 2 == 0))
    return worst


def worths_beside(grid, told, halves, is_missed):
    """Worths in a grid no told time of which is farther away than so many halves, or less than one half more."""
    edge = 2 * halves + 2 if is_missed else 2 * halves + 1
    near = doubled(grid)
    for row in told:
        if row > 0:
            near = bounded(near, row, 0, 4 * told[row] + edge)
            near = bounded(near, 0, row, edge - 4 * told[row])
    return worths_in(near, 2)


def clashes(grid, told):
    """The pairs of rows whose told times break the bound of the grid between them."""
    return [(i, j) for i in told for j in told if not is_let(grid[i][j], told[i] - told[j])]


def is_let(code, gap):
    return code is None or is_kept(code, (gap, 1))
