"""Times for ways of arrows, reckoned by whole parts of a unit."""

from rowsintime.bounds import UPTO_ZERO
from rowsintime.points import parts_of
from rowsintime.ratios import lowest


def bounds_along(plan, way):
    """Bounds (i, j, code) of the times of the arrows of a way, and the arrows by which each clock was begun last.

    The arrows are numbered from 1 on here, 0 is the begin.
    """
    lasts = [0 for _ in range(plan.size)]
    bounds = []
    for ahead, number in enumerate(way):
        now = ahead + 1
        # The begin, always worth 0, is like a clock that is begun at each time.
        lasts[0] = now
        bounds.append((ahead, now, UPTO_ZERO))
        for i, j, code in plan.arrows[number][2]:
            bounds.append((lasts[j], lasts[i], code))
        for clock in plan.arrows[number][3]:
            lasts[clock] = now
    return (bounds, lasts)


def least_times(many, steps):
    """The least integers, the first of them 0, such that number i is at most step more than number j; None if none.

    steps are triples (i, j, step), among them such that each number is at least the one ahead of it.
    """
    times = [0 for _ in range(many)]
    for _ in range(many + 1):
        is_changed = False
        for i, j, step in steps:
            if times[j] < times[i] - step:
                times[j] = times[i] - step
                is_changed = True
        if times[0] > 0:
            return None
        if not is_changed:
            return times
    return None


def timed(way, bounds, parts):
    """The run by a way whose times keep bounds and are whole numbers of parts of a unit, None if there is none."""
    times = least_times(len(way) + 1, [(i, j, parts_of(code, parts)) for i, j, code in bounds])
    if times is None:
        return None
    return [(number, lowest(times[at + 1], parts)) for at, number in enumerate(way)]


def run_along(plan, way):
    """A run by a way that some run goes by."""
    bounds, _ = bounds_along(plan, way)
    # A ring has at most as many bounds told with below as there are times, the begin among them: so many parts
    # of a unit, all taken away, leave more than -1 of a whole number of units.
    return timed(way, bounds, len(way) + 1)


def run_up_to(plan, way, end):
    """A run by a way, that some run to this end goes by, whose last time is the end."""
    many = len(way)
    # As many parts of a unit as run_along takes, and as many parts of these that the end is a whole number of them.
    parts = (many + 1) * end[1]
    bounds, _ = bounds_along(plan, way)
    steps = [(i, j, parts_of(code, parts)) for i, j, code in bounds]
    last = end[0] * (many + 1)
    found = least_times(many + 1, steps + [(many, 0, last), (0, many, -last)])
    return [(number, lowest(found[at + 1], parts)) for at, number in enumerate(way)]
