"""What conditions, time and arrows make of closed grids.

A grid is changed in place here where a function says so, as searches make very many of them. Sums of codes are
written out as in code_sum, for the same reason.
"""

from rowsintime.bounds import UPTO_ZERO, loosened


def copied(grid):
    return [list(row) for row in grid]


def flat(grid):
    """The grid as a tuple of its codes, row by row."""
    return tuple([code for row in grid for code in row])


def packed(grid, width):
    """The grid as one number, with a field of so many bits for each code, the greatest one for None."""
    none = (1 << (width - 1)) - 1
    zero = 1 << (width - 2)
    number = 0
    for row in grid:
        for code in row:
            number = number << width | (none if code is None else zero + code)
    return number


def guards(size, width):
    """The highest bit of each field of a grid's number, which no code has.

    A grid is inside another one if these bits, put into the number of the other, are left when its own is taken away.
    """
    number = 0
    for _ in range(size * size):
        number = number << width | 1 << (width - 1)
    return number


def is_inside(inner, outer):
    """Whether all points of a closed flat grid are points of another flat grid."""
    for one, other in zip(inner, outer):
        if other is not None and (one is None or one > other):
            return False
    return True


def zero_grid(size):
    """The grid of the one point at which all is worth 0."""
    return [[UPTO_ZERO for _ in range(size)] for _ in range(size)]


def worths_grid(size):
    """The grid of all worths from 0 on."""
    grid = [[None for _ in range(size)] for _ in range(size)]
    grid[0] = [UPTO_ZERO for _ in range(size)]
    for at in range(size):
        grid[at][at] = UPTO_ZERO
    return grid


def tighten(grid, i, j, code):
    """Bound a closed grid in place once more, closed again; False, and nothing is changed, if no point is left."""
    if grid[i][j] is not None and grid[i][j] <= code:
        return True
    back = grid[j][i]
    if back is not None and back + code - ((back | code) & 1) < UPTO_ZERO:
        return False
    size = len(grid)
    tail = [None if to is None else code + to - ((code | to) & 1) for to in grid[j]]
    for one in range(size):
        head = grid[one][i]
        if head is None:
            continue
        row = grid[one]
        for other in range(size):
            to = tail[other]
            if to is None:
                continue
            way = head + to - ((head | to) & 1)
            if row[other] is None or way < row[other]:
                row[other] = way
    return True


def tighten_all(grid, conditions):
    """Bound a closed grid in place by conditions; False if no point is left."""
    for i, j, code in conditions:
        if not tighten(grid, i, j, code):
            return False
    return True


def close(grid):
    """Close in place a grid that has a point."""
    size = len(grid)
    for middle in range(size):
        through = grid[middle]
        for one in range(size):
            head = grid[one][middle]
            if head is None or one == middle:
                continue
            row = grid[one]
            for other in range(size):
                to = through[other]
                if to is None:
                    continue
                way = head + to - ((head | to) & 1)
                if row[other] is None or way < row[other]:
                    row[other] = way


def begin_clocks(grid, clocks):
    """Set clocks of a closed grid to 0 in place."""
    for clock in clocks:
        grid[clock] = list(grid[0])
        for at in range(len(grid)):
            grid[at][clock] = grid[at][0]


def let_time_pass(grid, limits):
    """Let time pass in place, as long as limits let it; they hold ahead of it."""
    for at in range(1, len(grid)):
        grid[at][0] = None
    tighten_all(grid, limits)


def let_go(grid, most):
    """Let go in place what lies beyond the greatest number of each clock, as beyond tells."""
    size = len(grid)
    is_changed = False
    for one in range(size):
        row = grid[one]
        for other in range(size):
            loose = loosened(row[other], most[one], most[other])
            if loose != row[other]:
                row[other] = loose
                is_changed = True
    if is_changed:
        close(grid)


def ease(grid, lows, highs):
    """Let go in place of what tells worths apart that lead on alike, by the lows and the highs of the place.

    Of two worths beyond the low the lesser one leads on to all to which the greater one does, of two beyond the high
    the greater one: no condition asks more. So the points that are put to the others here lead to nothing new.
    """
    size = len(grid)
    past = [low is not None and grid[0][at] <= -2 * low for at, low in enumerate(lows)]
    gone = [high is not None and grid[0][at] <= -2 * high for at, high in enumerate(highs)]
    is_changed = False
    for one in range(1, size):
        row = grid[one]
        for other in range(size):
            if row[other] is None or one == other:
                continue
            if past[one] or gone[other] or (lows[one] is not None and row[other] > 2 * lows[one] + 1):
                row[other] = None
                is_changed = True
    for at in range(1, size):
        if gone[at] and grid[0][at] < min(UPTO_ZERO, -2 * highs[at]):
            grid[0][at] = min(UPTO_ZERO, -2 * highs[at])
            is_changed = True
    if is_changed:
        close(grid)


def first_entry(plan):
    """The grid of all clocks at 0, None if the limits of the first place do not hold then."""
    grid = zero_grid(plan.size)
    if not tighten_all(grid, plan.limits[plan.begin]):
        return None
    return grid


def entry(plan, grid, number):
    """The grid right behind an arrow from a grid at its place, None if it leads to nothing."""
    _, _, conditions, begun, _ = plan.arrows[number]
    behind = copied(grid)
    if not tighten_all(behind, conditions):
        return None
    begin_clocks(behind, begun)
    return behind


def waited(plan, place, grid):
    """The grid at a place behind any wait that its limits let."""
    behind = copied(grid)
    let_time_pass(behind, plan.limits[place])
    return behind


def first_lot(plan):
    """The grid of the first place ahead of any arrow, None if its limits do not hold at 0."""
    grid = first_entry(plan)
    if grid is None:
        return None
    return waited(plan, plan.begin, grid)


def led_to(plan, grid, number):
    """What an arrow, and any wait behind it, lead to from a grid at its place; None if nothing."""
    behind = entry(plan, grid, number)
    if behind is None:
        return None
    return waited(plan, plan.arrows[number][4], behind)


def made(plan, grid, number):
    """What an arrow leads to, with what lies beyond let go; None if nothing."""
    behind = led_to(plan, grid, number)
    if behind is not None:
        let_go(behind, plan.most)
    return behind
