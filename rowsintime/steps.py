"""Single runs of plans: where they stand, and the times to which arrows are bound there.

A STAND is a tuple (place, now, lasts): a place, the time, and for each clock the time at which it was begun last,
fractions in lowest terms. lasts[0] is for the begin, and stands for nothing.
"""

from math import lcm

from rowsintime.bounds import is_kept
from rowsintime.kinds import is_integer, is_list, is_time
from rowsintime.passing import first_entry
from rowsintime.ratios import difference, is_less, lowest
from rowsintime.stretches import met

ZERO = (0, 1)


def first_stand(plan):
    return (plan.begin, ZERO, tuple([ZERO for _ in range(plan.size)]))


def can_begin(plan):
    """Whether the limits of the first place hold at the time 0."""
    return first_entry(plan) is not None


def are_kept(conditions, lasts, time):
    """Whether conditions hold at a time."""
    # The begin, always worth 0, is like a clock that is begun just now.
    begun = (time,) + lasts[1:]
    return all([is_kept(code, difference(begun[j], begun[i])) for i, j, code in conditions])


def can_go(plan, stand, number, time):
    """Whether an arrow can go from a stand at a time, not ahead of its own."""
    place, _, conditions, _, _ = plan.arrows[number]
    return place == stand[0] and are_kept(conditions, stand[2], time)


def gone(plan, stand, number, time):
    """The stand right behind an arrow."""
    _, _, _, begun, to = plan.arrows[number]
    now = lowest(time[0], time[1])
    return (to, now, tuple([now if at in begun else last for at, last in enumerate(stand[2])]))


def stand_behind(plan, thing):
    """The stand right behind a run, None for any object that is none."""
    if not is_list(thing) or not can_begin(plan):
        return None
    stand = first_stand(plan)
    for pair in thing:
        if not is_step(plan, pair) or is_less(pair[1], stand[1]) or not can_go(plan, stand, pair[0], pair[1]):
            return None
        stand = gone(plan, stand, pair[0], pair[1])
    return stand


def is_step(plan, thing):
    if not is_list(thing) or len(thing) != 2 or not is_integer(thing[0]) or not is_time(thing[1]):
        return False
    return 0 <= thing[0] < len(plan.arrows)


def worths_at(clocks, stand):
    """The worths of clocks at the time of a stand, in lowest terms."""
    worths = {}
    for at, clock in enumerate(clocks):
        top, bottom = difference(stand[1], stand[2][at + 1])
        worths[clock] = lowest(top, bottom)
    return worths


def scale_of(stand):
    """Of which parts of a unit all times of a stand are whole numbers."""
    scale = stand[1][1]
    for last in stand[2]:
        scale = lcm(scale, last[1])
    return scale


def window(stand, conditions, scale):
    """The stretch of the times from now on, by parts of a unit, at which conditions hold; None if there are none."""
    found = (2 * in_parts(stand[1], scale), None)
    for i, j, code in conditions:
        if i > 0:
            found = met(found, (found[0], moved_edge(code, in_parts(stand[2][i], scale), scale)))
        elif j > 0:
            found = met(found, (moved_edge(1 - code, in_parts(stand[2][j], scale), scale), None))
        elif not is_kept(code, ZERO):
            found = None
        if found is None:
            return None
    return found


def limit_edge(stand, limits, scale):
    """Up to which edge, by parts of a unit, limits let the time go; None if they let it go on without end."""
    edges = [moved_edge(code, in_parts(stand[2][clock], scale), scale) for clock, _, code in limits]
    return min(edges, default=None)


def in_parts(time, scale):
    return time[0] * (scale // time[1])


def moved_edge(edge, by, scale):
    """The edge of a number of units, put by parts farther on."""
    return 2 * (edge // 2 * scale + by) + edge % 2
