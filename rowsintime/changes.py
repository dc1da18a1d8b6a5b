"""Changes of tables, each told by its points: closed tables, None where there are no points."""

from rowsintime.bounds import UPTO_ZERO, code_of, is_upper, loosened, tighter_code
from rowsintime.errors import BadBound, BadMost, BadNames
from rowsintime.grids import (
    bounded, check_alike_names, closed_grid, grid_of, looser_grid, shut, table_of, tighter_grid)
from rowsintime.kinds import bad_choice_at, is_count


def table_or_none(names, grid):
    if grid is None:
        return None
    return table_of(names, grid)


def cut(table, one, other, bound):
    """The points in which what one is more than other keeps a bound, too."""
    # Asked for its errors: of the names ahead of that of the bound.
    table.bound(one, other)
    if not is_upper(bound):
        raise BadBound(bound)
    grid = closed_grid(table)
    if grid is None:
        return None
    spots = [""] + table.names()
    return table_or_none(table.names(), bounded(grid, spots.index(one), spots.index(other), code_of(bound)))


def later(table):
    """All points, with one same fraction from 0 on added to all worths."""
    grid = closed_grid(table)
    if grid is None:
        return None
    # Nothing bounds a worth from above now, neither alone nor by way of another one: so it is closed still.
    for at in range(1, len(grid)):
        grid[at][0] = None
    return table_of(table.names(), grid)


def earlier(table):
    """All points without a worth below 0, with one same fraction taken off all worths, as far as none falls below 0."""
    grid = positive_grid(closed_grid(table))
    if grid is None:
        return None
    # What bounds a worth from below is let go, but for 0 and what other worths ask: shut finds that again.
    for at in range(1, len(grid)):
        grid[0][at] = UPTO_ZERO
    return table_of(table.names(), shut(grid))


def positive_grid(grid):
    """The closed grid of the points of a closed one, or of None, without a worth below 0."""
    if grid is None:
        return None
    size = len(grid)
    bounds = [[tighter_code(grid[0][at], UPTO_ZERO) for at in range(size)]]
    return shut(bounds + grid[1:])


def begun(table, names):
    """All points, the worths of some names being 0 instead."""
    check_choice(table, names)
    # A name that is begun stands in the place of the begin from now on.
    places = [0 if name in names else at + 1 for at, name in enumerate(table.names())]
    return replaced(table, table.names(), places)


def without(table, names):
    """The parts of all points that are about the other names."""
    check_choice(table, names)
    kept = [name for name in table.names() if name not in names]
    places = [at + 1 for at, name in enumerate(table.names()) if name not in names]
    return replaced(table, kept, places)


def check_choice(table, names):
    bad = bad_choice_at(names, table.names())
    if bad is not None:
        raise BadNames(bad)


def replaced(table, names, places):
    """The closed table about names, each of which takes its bounds from a place of the closed grid of a table."""
    grid = closed_grid(table)
    if grid is None:
        return None
    places = [0] + places
    return table_of(names, [[grid[i][j] for j in places] for i in places])


def both(one, other):
    """The points of both tables."""
    check_alike_names(one, other)
    return table_or_none(one.names(), shut(tighter_grid(grid_of(one), grid_of(other))))


def over(one, other):
    """The tightest table that has all points of the one and all of the other."""
    check_alike_names(one, other)
    first = closed_grid(one)
    second = closed_grid(other)
    if first is None:
        return table_or_none(one.names(), second)
    if second is None:
        return table_of(one.names(), first)
    return table_of(one.names(), looser_grid(first, second))


def beyond(table, most):
    """The table with what lies beyond given numbers let go."""
    check_most(table.names(), most)
    grid = closed_grid(table)
    if grid is None:
        return None
    # The begin has no number: nothing lies beyond it.
    numbers = [None] + [most[name] for name in table.names()]
    size = len(grid)
    loose = [[loosened(grid[i][j], numbers[i], numbers[j]) for j in range(size)] for i in range(size)]
    for at in range(size):
        loose[at][at] = UPTO_ZERO
    return table_of(table.names(), shut(loose))


def check_most(names, most):
    if not isinstance(most, dict):
        raise BadMost(None)
    for name in names:
        if not is_count(most.get(name)):
            raise BadMost(name)
