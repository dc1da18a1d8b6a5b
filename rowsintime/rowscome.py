"""Rows of signals that come, whatever their times, and what shows that others never do."""

from rowsintime.grids import table_of
from rowsintime.kinds import is_list
from rowsintime.lots import are_lots, codes_of, is_in_one, lots_by_place
from rowsintime.passing import first_lot, led_to
from rowsintime.plans import in_whole_times, plan_of
from rowsintime.rowlots import RowLots
from rowsintime.rows import Rows, check_row
from rowsintime.runs import check_seen
from rowsintime.timing import bounds_along, run_along, timed


def rows_of(watcher):
    """The set of all rows that come."""
    check_seen(watcher)
    return ended_rows(plan_of(watcher), watcher.signals(), watcher.ends())


def begun_rows(watcher):
    """The set of all rows that begin, whether an end follows or not."""
    check_seen(watcher)
    return ended_rows(plan_of(watcher), watcher.signals(), watcher.places())


def ended_rows(plan, signals, ends):
    """The set of the rows by which some of the ends are come to."""
    lots = RowLots(plan)
    lists, lanes = lots.all_lists(signals)
    return Rows(signals, lanes, [0], [at for at, found in enumerate(lists) if lots.ended(found, ends) is not None])


def check_asked(watcher, row):
    check_seen(watcher)
    check_row(watcher.signals(), row)


def way_for(plan, row, ends):
    """The arrows by which a row comes to one of the ends, None if it does not."""
    lots = RowLots(plan)
    lists = lots.lists_along(row)
    lot = lots.ended(lists[-1], ends)
    return None if lot is None else lots.way(row, lists, lot)


def run_for(watcher, row):
    """A run by which a row comes, None if it does not come."""
    check_asked(watcher, row)
    plan = plan_of(watcher)
    way = way_for(plan, row, watcher.ends())
    return None if way is None else run_along(plan, way)


def row_comes(watcher, row):
    check_asked(watcher, row)
    return way_for(plan_of(watcher), row, watcher.ends()) is not None


def look_through(watcher, row):
    """Lists of lots, behind each signal of a row, that show that it does not come; None if it comes."""
    check_asked(watcher, row)
    lots = RowLots(plan_of(watcher))
    lists = lots.lists_along(row)
    if lots.ended(lists[-1], watcher.ends()) is not None:
        return None
    clocks = watcher.clocks()
    return [[(lots.spots[lot], table_of(clocks, lots.grids[lot])) for lot in found] for found in lists]


def shows_no_row(watcher, row, thing):
    """Whether any object is a look-through that shows that a row does not come."""
    check_asked(watcher, row)
    places = watcher.places()
    if not is_list(thing) or len(thing) != len(row) + 1:
        return False
    if not all([are_lots(places, watcher.clocks(), lots) for lots in thing]):
        return False
    if any([place in watcher.ends() for place, _ in thing[-1]]):
        return False
    return leads_through(plan_of(watcher), row, [lots_by_place(places, lots) for lots in thing])


def leads_through(plan, row, lists):
    """Whether lots, by places, hold the first lot, and behind each signal all that the ones ahead lead to."""
    codes = [codes_of(lots) for lots in lists]
    first = first_lot(plan)
    if first is not None and not is_in_one(first, codes[0][plan.begin]):
        return False
    return all([leads_on(plan, signal, lists[at], codes[at + 1]) for at, signal in enumerate(row)])


def leads_on(plan, signal, lots, codes):
    """Whether all that a signal leads to from each of some lots is within one of others."""
    for number, arrow in enumerate(plan.arrows):
        place, heard, _, _, to = arrow
        if heard == signal and not all([is_in_one(led_to(plan, grid, number), codes[to]) for grid in lots[place]]):
            return False
    return True


def whole_rows(watcher):
    """The set of the rows that come by runs all of whose times are integers."""
    check_seen(watcher)
    return ended_rows(in_whole_times(plan_of(watcher)), watcher.signals(), watcher.ends())


def whole_run_for(watcher, row):
    """A run by which a row comes at integers alone, None if there is none."""
    check_asked(watcher, row)
    plan = in_whole_times(plan_of(watcher))
    way = way_for(plan, row, watcher.ends())
    if way is None:
        return None
    bounds, _ = bounds_along(plan, way)
    return timed(way, bounds, 1)
