"""Which places come, and the lists of lots that show which never do."""

from rowsintime.errors import NoPlace
from rowsintime.finding import all_lots, explore, shortest_way
from rowsintime.changes import positive_grid
from rowsintime.grids import closed_grid, table_of
from rowsintime.kinds import is_list
from rowsintime.passing import first_lot, flat, is_inside, made
from rowsintime.plans import plan_of
from rowsintime.tables import Table
from rowsintime.timing import run_along
from rowsintime.watchers import is_one_of


def check_place(watcher, place):
    if not is_one_of(watcher.places(), place):
        raise NoPlace(place)


def comes(watcher, place):
    """Whether some run ends at a place."""
    check_place(watcher, place)
    return explore(plan_of(watcher), lambda to, grid: to == place)[0]


def shortest(watcher, place):
    """A run that ends at a place with as few arrows as can be, None if there is none."""
    check_place(watcher, place)
    plan = plan_of(watcher)
    way = shortest_way(plan, lambda to, grid: to == place)
    if way is None:
        return None
    return run_along(plan, way)


def closed_list(watcher):
    """A closed list in which just the places that come stand."""
    return [(place, table_of(watcher.clocks(), grid)) for place, grid in all_lots(plan_of(watcher))]


def is_closed_list(watcher, thing):
    if not are_lots(watcher.places(), watcher.clocks(), thing):
        return False
    return is_closed(plan_of(watcher), lots_by_place(watcher.places(), thing))


def are_lots(places, names, thing):
    """Whether any object is a list of pairs of a place and a table about just these names, in order."""
    return is_list(thing) and all([is_lot(places, names, pair) for pair in thing])


def is_lot(places, names, thing):
    if not is_list(thing) or len(thing) != 2 or not is_one_of(places, thing[0]):
        return False
    return isinstance(thing[1], Table) and thing[1].names() == names


def lots_by_place(places, lots):
    """Lists of the closed grids of lots, by places, without what has no worth from 0 on."""
    found = {place: [] for place in places}
    for place, table in lots:
        grid = worths_of(table)
        if grid is not None:
            found[place].append(grid)
    return found


def worths_of(table):
    """The closed grid of the points of a table without a worth below 0, None if there are none."""
    return positive_grid(closed_grid(table))


def codes_of(lots):
    """The flat grids of lots, by places."""
    return {place: [flat(grid) for grid in lots[place]] for place in lots}


def is_closed(plan, lots):
    """Whether lots, by places, have the first one, and all that arrows make of each, each within one lot."""
    codes = codes_of(lots)
    first = first_lot(plan)
    if first is not None and not is_in_one(first, codes[plan.begin]):
        return False
    for number, arrow in enumerate(plan.arrows):
        place, _, _, _, to = arrow
        if not all([is_in_one(made(plan, grid, number), codes[to]) for grid in lots[place]]):
            return False
    return True


def is_in_one(grid, lots):
    """Whether a closed grid, or None, is within one of the flat grids of some lots."""
    if grid is None:
        return True
    codes = flat(grid)
    for lot in lots:
        if is_inside(codes, lot):
            return True
    return False


def shows_never(watcher, place, thing):
    """Whether any object is a closed list without a place."""
    check_place(watcher, place)
    if not is_closed_list(watcher, thing):
        return False
    return all([pair[0] != place for pair in thing])
