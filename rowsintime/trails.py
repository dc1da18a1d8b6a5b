"""Trails: ways of arrows with all times at once at which they can be gone, grown arrow by arrow."""

from rowsintime.bounds import UPTO_ZERO
from rowsintime.passing import tighten_all


class Trail:
    """A way to a place, with the closed grid of its times.

    The first row of the grid is the begin, at which all clocks are 0, the others are the times of the arrows, in
    order. lasts are the rows of the times at which the clocks were begun last; that of the begin stands for nothing.
    """

    def __init__(self, way, place, lasts, grid):
        self.way = way
        self.place = place
        self.lasts = lasts
        self.grid = grid

    def last_row(self):
        return len(self.grid) - 1


def trail_at(plan, place):
    """The trail of no arrow from a place."""
    return Trail((), place, [0 for _ in range(plan.size)], [[UPTO_ZERO]])


def gone_on(plan, trail, number, stretch):
    """The trail with an arrow more, whose time lies in a stretch; None if there are no such times."""
    _, _, conditions, begun, to = plan.arrows[number]
    grid = with_time(trail, conditions, stretch)
    if grid is None:
        return None
    now = len(trail.grid)
    lasts = [now if at in begun else last for at, last in enumerate(trail.lasts)]
    return Trail(trail.way + (number,), to, lasts, grid)


def stood_on(plan, trail, stretch):
    """The trail with a time more, in a stretch, until which it stands at its place; None if there is none."""
    grid = with_time(trail, plan.limits[trail.place], stretch)
    if grid is None:
        return None
    return Trail(trail.way, trail.place, trail.lasts, grid)


def with_time(trail, conditions, stretch):
    """The closed grid with a time more, not ahead of the last one, at which conditions hold; None if there is none."""
    now = len(trail.grid)
    grid = [row + [None] for row in trail.grid] + [[None for _ in range(now)] + [UPTO_ZERO]]
    low, high = stretch
    bounds = [(now - 1, now, UPTO_ZERO), (0, now, 1 - low)]
    if high is not None:
        bounds.append((now, 0, high))
    # The begin of clocks, always worth 0, is like a clock that is begun at this time.
    lasts = [now] + trail.lasts[1:]
    bounds.extend([(lasts[j], lasts[i], code) for i, j, code in conditions])
    return grid if tighten_all(grid, bounds) else None
