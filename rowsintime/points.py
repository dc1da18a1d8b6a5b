"""Points of tables, and the rings that show that there are none."""

from rowsintime.bounds import UPTO_ZERO, code_of, code_sum, is_kept
from rowsintime.grids import grid_of
from rowsintime.kinds import is_fraction, is_list
from rowsintime.ratios import difference, lowest


def is_point(table, thing):
    names = table.names()
    if not isinstance(thing, dict) or len(thing) != len(names):
        return False
    for name in names:
        if name not in thing or not is_fraction(thing[name]):
            return False
    worths = {name: thing[name] for name in names}
    worths[""] = (0, 1)
    bounds = table.bounds()
    for one, other in bounds:
        if not is_kept(code_of(bounds[one, other]), difference(worths[one], worths[other])):
            return False
    return True


def point(table):
    """A point of the table, None if it has none."""
    worths = worths_in(grid_of(table), 1)
    if worths is None:
        return None
    return {name: worths[at + 1] for at, name in enumerate(table.names())}


def worths_in(grid, scale):
    """Fractions, the first one 0, that keep a grid in parts of a unit, so many of these to one; None if none do."""
    # A ring has at most as many "below" as the grid has rows: so many parts of a number, all taken away, leave
    # more than -1 of a sum of bounds, and whole numbers of these parts tell all that fractions tell.
    parts = len(grid) + 1
    heights = heights_of([[parts_of(code, parts) for code in row] for row in grid])
    if heights is None:
        return None
    return [lowest(height - heights[0], parts * scale) for height in heights]


def parts_of(code, parts):
    """The bound of a code in parts of a unit, less one part if it is told with "below"."""
    if code is None:
        return None
    if code % 2 == 1:
        return (code // 2) * parts
    return (code // 2) * parts - 1


def heights_of(steps):
    """Integers such that heights[i] is at most heights[j] + steps[i][j], None if there are none."""
    size = len(steps)
    heights = [0 for at in range(size)]
    for _ in range(size):
        lowered = [lowered_height(heights, steps[at], at) for at in range(size)]
        if lowered == heights:
            return heights
        heights = lowered
    return None


def lowered_height(heights, row, at):
    return min([heights[at]] + [heights[to] + row[to] for to in range(len(row)) if row[to] is not None])


def ring(table):
    """A ring with as few things as can be that bars the table, None if none does."""
    spots = [""] + table.names()
    size = len(spots)
    steps = grid_of(table)
    walks = [[first_walk(steps, one, other) for other in range(size)] for one in range(size)]
    for _ in range(size - 1):
        walks = [[longer_walk(walks[one], steps, other) for other in range(size)] for one in range(size)]
        for start in range(size):
            walk = walks[start][start]
            # The shortest walks back that bar come to nothing twice: a part of them would bar by itself.
            if walk is not None and walk[0] < UPTO_ZERO:
                return tuple([spots[at] for at in walk[1]])
    return None


def first_walk(steps, one, other):
    """The walk of one step: its sum and what it comes to, its end left out; None if there is none."""
    if one == other or steps[one][other] is None:
        return None
    return (steps[one][other], (one,))


def longer_walk(walks, steps, other):
    """The tightest walk to other that is one step longer than walks that begin as these do."""
    best = None
    for at, walk in enumerate(walks):
        if walk is None or at == other or steps[at][other] is None:
            continue
        length = code_sum(walk[0], steps[at][other])
        if best is None or length < best[0]:
            best = (length, walk[1] + (at,))
    return best


def is_ring(table, thing):
    spots = [""] + table.names()
    if not is_list(thing) or len(thing) < 2:
        return False
    numbers = {spot: at for at, spot in enumerate(spots)}
    seen = {}
    for spot in thing:
        if not isinstance(spot, str) or spot not in numbers or spot in seen:
            return False
        seen[spot] = True
    way = [numbers[spot] for spot in thing]
    return way[0] == min(way) and is_barring(grid_of(table), way)


def is_barring(grid, way):
    """Whether the bounds along a way and back to its begin have a sum that 0 does not keep."""
    total = UPTO_ZERO
    for at, spot in enumerate(way):
        total = code_sum(total, grid[spot][way[(at + 1) % len(way)]])
    return total is not None and total < UPTO_ZERO
