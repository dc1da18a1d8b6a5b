"""Fresh arrows, the leaps between them, and the rounds that leaps make."""

from rowsintime.bounds import lower_of, upper_of
from rowsintime.errors import BadMean, NotFresh
from rowsintime.kinds import is_fraction, is_integer, is_list
from rowsintime.machines import quietly_reached, steps_of
from rowsintime.plans import plan_of
from rowsintime.stretches import ANY_NUMBER
from rowsintime.trails import gone_on, trail_at


def fresh_arrows(watcher):
    """The numbers of the arrows that begin all clocks, as a dict of True."""
    many = len(watcher.clocks())
    return {number: True for number, arrow in enumerate(watcher.arrows()) if len(arrow[3]) == many}


def check_fresh(watcher):
    """Whether each circle has a fresh arrow."""
    fresh = fresh_arrows(watcher)
    arrows = watcher.arrows()
    circle = first_circle(arrows, [number for number in range(len(arrows)) if number not in fresh])
    if circle is not None:
        raise NotFresh(circle)


def first_circle(arrows, numbers):
    """The first circle of some arrows, by ascending numbers; None if there is none."""
    ways = [(number,) for number in numbers]
    while ways:
        for way in ways:
            # A way that comes to a place twice has a shorter circle in it, which was found ahead of it.
            if arrows[way[-1]][4] == arrows[way[0]][0]:
                return way
        ways = [way + (number,) for way in ways for number in numbers
                if number > way[0] and arrows[number][0] == arrows[way[-1]][4]]
    return None


def all_leaps(watcher):
    """The leaps of all starts that come, in order."""
    check_fresh(watcher)
    fresh = fresh_arrows(watcher)
    plan = plan_of(watcher)
    found = {None: leaps_from(plan, fresh, None)}
    starts = [None]
    while starts:
        ends = [leg[-1] for start in starts for _, leg, _, _ in found[start]]
        starts = sorted(set([end for end in ends if end not in found]))
        for start in starts:
            found[start] = leaps_from(plan, fresh, start)
    numbers = sorted([start for start in found if start is not None])
    return found[None] + [leap for start in numbers for leap in found[start]]


def leaps_from(plan, fresh, start):
    """The leaps of a start, in order."""
    trails = [trail_at(plan, plan.begin if start is None else plan.arrows[start][4])]
    found = []
    while trails:
        longer = [gone_on(plan, trail, number, ANY_NUMBER) for trail in trails for number in plan.leaving[trail.place]]
        longer = [trail for trail in longer if trail is not None]
        found.extend([leap_told(start, trail) for trail in longer if trail.way[-1] in fresh])
        trails = [trail for trail in longer if trail.way[-1] not in fresh]
    return found


def leap_told(start, trail):
    last = trail.last_row()
    return (start, trail.way, lower_of(trail.grid[0][last]), upper_of(trail.grid[last][0]))


def leaps_of_rounds(leaps):
    """The leaps from whose last arrows leaps lead back to their starts."""
    steps = steps_of([(leg[-1], None, start) for start, leg, _, _ in leaps if start is not None])
    ahead = {start: quietly_reached(steps, [start]) for start, _, _, _ in leaps if start is not None}
    return [leap for leap in leaps if leap[0] is not None and leap[1][-1] in ahead[leap[0]]]


def rounds_in(leaps):
    """All rounds, as tuples of leaps."""
    kept = leaps_of_rounds(leaps)
    found = []
    for first in sorted(set([start for start, _, _, _ in kept])):
        ways = [(leap,) for leap in kept if leap[0] == first]
        while ways:
            found.extend([way for way in ways if end_of(way[-1]) == first])
            ways = [way + (leap,) for way in ways for leap in kept if leads_on(first, way, leap)]
    return found


def end_of(leap):
    return leap[1][-1]


def leads_on(first, way, leap):
    """Whether a leap leads on from a way of leaps from its first start, the least one, to no start a second time."""
    start = leap[0]
    if start != end_of(way[-1]) or start <= first:
        return False
    return start not in [one[0] for one in way]


def round_of(leaps, thing):
    """The leaps of any object that is a round, None if it is none."""
    if not is_list(thing) or not thing or not all([is_leg(leg) for leg in thing]):
        return None
    legs = [tuple(leg) for leg in thing]
    starts = [leg[-1] for leg in [legs[-1]] + legs[:-1]]
    if starts[0] != min(starts) or len(set(starts)) < len(starts):
        return None
    known = {(start, leg): (start, leg, least, greatest) for start, leg, least, greatest in leaps}
    found = [known.get(pair) for pair in zip(starts, legs)]
    return None if None in found else tuple(found)


def is_leg(thing):
    return is_list(thing) and len(thing) > 0 and all([is_integer(number) for number in thing])


def check_mean(thing):
    if not is_fraction(thing):
        raise BadMean(thing)
