"""What closed grids of times, each of one way, tell of differences: alone, and several of them together."""

from rowsintime.bounds import UPTO_ZERO, code_sum, lower_of, tighter_code, upper_of
from rowsintime.grids import bounded, shut
from rowsintime.points import worths_in


def loosest(codes):
    """The loosest one of some bounds."""
    return None if None in codes else max(codes)


def tightest_sum(pairs):
    """The tightest one of the sums of pairs of bounds."""
    best = None
    for one, other in pairs:
        best = tighter_code(best, code_sum(one, other))
    return best


def gap_over(spots):
    """The tightest bounds of what the row j is more than the row i, over all of some triples (grid, i, j)."""
    low = loosest([grid[i][j] for grid, i, j in spots])
    high = loosest([grid[j][i] for grid, i, j in spots])
    return (lower_of(low), upper_of(high))


def doubled(grid):
    """The grid of all worths twice as great."""
    # Codes tell twice their numbers, and one more for upto: that one stays one.
    return [[None if code is None else 2 * code - code % 2 for code in row] for row in grid]


def worths_near(grid, high, low):
    """Worths in a closed grid by which what one row is more than another comes to its bound, not None, or near it.

    Near what is told with below is less than a half away.
    """
    code = grid[high][low]
    # In halves: the contrary is from the contrary number on, or less than one half above it.
    near = UPTO_ZERO - 4 * (code // 2) if code % 2 == 1 else 2 - 4 * (code // 2)
    return worths_in(bounded(doubled(grid), low, high, near), 2)


def leeway(grid, rows, at):
    """How much more a row is in one point than in another one that agrees with it in some rows: the tightest bound."""
    return tightest_sum([(grid[at][row], grid[row][at]) for row in rows])


def shared_grid(one, other, rows):
    """The closed grid of some rows in all points of one grid that agree in them with some of another; None if none."""
    return shut([[tighter_code(one[i][j], other[i][j]) for j in rows] for i in rows])


def leeway_by(one, shared, other, rows, at):
    """As leeway, of a point of one grid and a point of another one; shared is their shared grid of the rows."""
    many = range(len(rows))
    ahead = [tightest_sum([(one[at][rows[i]], shared[i][j]) for i in many]) for j in many]
    return tightest_sum([(ahead[j], other[rows[j]][at]) for j in many])


def worths_agreeing(one, other, rows):
    """Worths of all rows of one grid and of another one that agree in some rows, the begin among them; None if none."""
    many = len(one)
    # The rows of the other one, but the begin, stand behind all rows of the one.
    places = [0] + [many - 1 + at for at in range(1, many)]
    size = 2 * many - 1
    grid = [[UPTO_ZERO if i == j else None for j in range(size)] for i in range(size)]
    for i in range(many):
        for j in range(many):
            grid[i][j] = tighter_code(grid[i][j], one[i][j])
            grid[places[i]][places[j]] = tighter_code(grid[places[i]][places[j]], other[i][j])
    for row in rows:
        grid[row][places[row]] = UPTO_ZERO
        grid[places[row]][row] = UPTO_ZERO
    worths = worths_in(grid, 1)
    if worths is None:
        return None
    return (worths[:many], [worths[place] for place in places])
