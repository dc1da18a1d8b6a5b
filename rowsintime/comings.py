"""The times at which places can be come to, and runs behind which nothing can go."""

from rowsintime.bounds import code_of, is_kept
from rowsintime.changes import earlier
from rowsintime.covering import left_of
from rowsintime.errors import BadNumber, BadTime
from rowsintime.finding import Queue, explore, first_lots, shortest_way
from rowsintime.grids import closed_grid, table_of
from rowsintime.kinds import is_count, is_time
from rowsintime.lots import are_lots, check_place, is_closed, lots_by_place
from rowsintime.passing import entry, first_entry, tighten_all, waited, worths_grid, zero_grid
from rowsintime.plans import plan_of, with_age
from rowsintime.ratios import lowest
from rowsintime.runs import run_stand
from rowsintime.steps import scale_of, window
from rowsintime.stretches import lower_told, merged, stretch_told
from rowsintime.timing import bounds_along, run_up_to, timed

AGE = "age"


def check_number(thing):
    if not is_count(thing):
        raise BadNumber(thing)


def times(watcher, place, most):
    """The stretches of all times up to most at which a place can be come to."""
    check_place(watcher, place)
    check_number(most)
    plan = plan_of(watcher)
    if not is_come_to(plan, place):
        return []
    last = code_of(("upto", most))
    return [stretch_told(stretch) for stretch in ages_at(with_age(plan, [last], None), place, last)]


def is_come_to(plan, place):
    """Whether a place comes at all: there are far fewer lots without ages, so this is asked ahead."""
    return explore(plan, lambda to, grid: to == place)[0]


def ages_at(plan, place, last):
    """The ages, as stretches of edges up to the last one, with which a place is come to."""
    grid = first_entry(plan)
    if grid is None:
        return []
    found = [age_stretch(plan, grid)] if place == plan.begin else []
    lots = first_lots(plan, grid)
    queue = Queue(lots)
    at = queue.take()
    while at is not None:
        # Lots of the least ages come first: from here on nothing less is found.
        low, _ = age_stretch(plan, lots.grids[at])
        if found and found[-1][0] <= low and found[-1][1] == last:
            break
        for number, to, behind in lots.entries(at):
            if to == place:
                found = merged(found + [age_stretch(plan, behind)])
            if lots.put_entry(number, behind, at):
                queue.put(len(lots.spots) - 1)
        at = queue.take()
    return found


def age_stretch(plan, grid):
    return (1 - grid[0][plan.age], grid[plan.age][0])


def earliest(watcher, place):
    """The lower bound of all times at which a place can be come to, None if it does not come."""
    check_place(watcher, place)
    plan = plan_of(watcher)
    if not is_come_to(plan, place):
        return None
    plan = with_age(plan, [], None)
    # The age begins at any number from 0 on: so what is come to later lies within what is come to earlier.
    grid = zero_grid(plan.size)
    for at in range(plan.age):
        grid[plan.age][at] = None
    lots = first_lots(plan, grid)
    queue = Queue(lots)
    at = queue.take()
    while lots.spots[at] != place:
        for number, _, behind in lots.entries(at):
            if lots.put_entry(number, behind, at):
                queue.put(len(lots.spots) - 1)
        at = queue.take()
    return lower_told(1 - lots.grids[at][0][plan.age])


def run_at(watcher, place, time):
    """A run that comes to a place at just this time, with as few arrows as can be, None if there is none."""
    check_place(watcher, place)
    if not is_time(time):
        raise BadTime(time)
    # In lowest terms: for equal times the run is the same.
    end = lowest(time[0], time[1])
    plan = plan_of(watcher)
    if not is_come_to(plan, place):
        return None
    last = code_of(("upto", -(-end[0] // end[1])))
    aged = with_age(plan, [last], None)
    way = shortest_way(aged, lambda to, grid: to == place and has_age(aged, grid, end))
    return None if way is None else run_up_to(plan, way, end)


def has_age(plan, grid, time):
    """Whether a grid has a point with just this age."""
    return is_kept(grid[0][plan.age], (-time[0], time[1])) and is_kept(grid[plan.age][0], time)


def is_stuck(watcher, run):
    """Whether no arrow can be put behind a run, at any time."""
    stand = run_stand(watcher, run)
    plan = plan_of(watcher)
    scale = scale_of(stand)
    return all([window(stand, plan.arrows[number][2], scale) is None for number in plan.leaving[stand[0]]])


def stuck(watcher):
    """A stuck run with as few arrows as can be, None if there is none."""
    plan = plan_of(watcher)
    plan.is_even = True
    free = {to: free_grids(watcher.clocks(), plan, to) for to in plan.limits}
    way = shortest_way(plan, lambda to, grid: left_of(grid, free[to]) is not None)
    if way is None:
        return None
    place, behind = end_of_way(plan, way)
    held = left_of(behind, free[place])
    bounds, lasts = bounds_along(plan, way)
    spots = [(i, j) for i in range(plan.size) for j in range(plan.size) if i != j and held[i][j] is not None]
    return timed(way, bounds + [(lasts[j], lasts[i], held[i][j]) for i, j in spots], len(way) + 1)


def end_of_way(plan, way):
    """The place at the end of a way, and the grid of the worths right behind it of just the runs by this way."""
    place = plan.begin
    grid = first_entry(plan)
    for number in way:
        # Nothing is let go here: each point is that of a run.
        grid = entry(plan, waited(plan, place, grid), number)
        place = plan.arrows[number][4]
    return (place, grid)


def free_grids(clocks, plan, place):
    """The grids of all worths at a place with which some arrow can still go, sooner or later."""
    found = []
    for number in plan.leaving[place]:
        grid = worths_grid(plan.size)
        if tighten_all(grid, plan.arrows[number][2]):
            found.append(closed_grid(earlier(table_of(clocks, grid))))
    return found


def shows_not_by(watcher, place, n, thing):
    """Whether any object is a closed list, with ages, by which a place is not come to up to n."""
    check_place(watcher, place)
    check_number(n)
    if not are_lots(watcher.places(), watcher.clocks() + [AGE], thing):
        return False
    plan = with_age(plan_of(watcher), [], n)
    lots = lots_by_place(watcher.places(), thing)
    return is_closed(plan, lots) and all([grid[0][plan.age] <= code_of(("below", -n)) for grid in lots[place]])
