"""Tables taken from one another, put together, and told by as few bounds as can be."""

from rowsintime.bounds import UPTO_ZERO, breaking_code, code_sum
from rowsintime.changes import over
from rowsintime.closing import filled_grid
from rowsintime.errors import BadTable
from rowsintime.grids import bounded, check_alike_names, closed_grid, grid_of, table_of
from rowsintime.kinds import is_list
from rowsintime.points import point
from rowsintime.tables import Table


def rest(one, other):
    """Closed tables, no two with a point in common, of just the points of one that other has not."""
    check_alike_names(one, other)
    grid = closed_grid(one)
    if grid is None:
        return []
    return [table_of(one.names(), piece) for piece in pieces_beside(grid, grid_of(other))]


def pieces_beside(grid, other):
    """Closed grids, apart from one another, of the points of a closed grid that another grid has not."""
    size = len(grid)
    places = [(row, column) for row in range(size) for column in range(size)]
    pieces = []
    here = grid
    for i, j in places:
        code = other[i][j]
        if code is None or (here[i][j] is not None and here[i][j] <= code):
            continue
        # What breaks this bound keeps all bounds ahead of it, so no two pieces meet.
        pieces.append(bounded(here, j, i, breaking_code(code)))
        here = bounded(here, i, j, code)
        if here is None:
            break
    return pieces


def outside(one, others):
    """A point of one that none of the others has, None if there is none."""
    check_tables(one.names(), others)
    grid = closed_grid(one)
    if grid is None:
        return None
    pieces = [grid]
    for other in others:
        taken = grid_of(other)
        pieces = [part for piece in pieces for part in pieces_beside(piece, taken)]
    if not pieces:
        return None
    return point(table_of(one.names(), pieces[0]))


def check_tables(names, things):
    if not is_list(things):
        raise BadTable(0)
    for at, thing in enumerate(things):
        if not isinstance(thing, Table) or thing.names() != names:
            raise BadTable(at)


def joined(one, other):
    """The closed table of just the points of both together, None if there is none such, or no point."""
    check_alike_names(one, other)
    whole = over(one, other)
    if whole is None or outside(whole, [one, other]) is not None:
        return None
    return whole


def lean(table):
    """A table with the same points that tells as few bounds as can be."""
    grid = filled_grid(table)
    lots = lots_of(grid)
    # Names that go together are told round in a ring, and by their first one alone to all others.
    kept = [pair for lot in lots for pair in pairs_round(lot)]
    firsts = [lot[0] for lot in lots]
    kept = kept + [(i, j) for i in firsts for j in firsts if i != j and is_needed(grid, firsts, i, j)]
    size = len(grid)
    told = [[grid[i][j] if (i, j) in kept else None for j in range(size)] for i in range(size)]
    return table_of(table.names(), told)


def lots_of(grid):
    """The lots of rows of a closed grid that go together, ascending."""
    lots = []
    for at in range(len(grid)):
        found = [k for k, lot in enumerate(lots) if code_sum(grid[at][lot[0]], grid[lot[0]][at]) == UPTO_ZERO]
        if found:
            lots[found[0]] = lots[found[0]] + [at]
        else:
            lots.append([at])
    return lots


def pairs_round(lot):
    """Each one and the next, the last and the first; one alone has no bound with itself to be told."""
    return [(one, lot[(at + 1) % len(lot)]) for at, one in enumerate(lot)]


def is_needed(grid, firsts, i, j):
    """Whether a bound between two lots is tighter than all sums by way of a third one."""
    if grid[i][j] is None:
        return False
    ways = [code_sum(grid[i][k], grid[k][j]) for k in firsts if k not in (i, j)]
    return all([way is None or grid[i][j] < way for way in ways])
