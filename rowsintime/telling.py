"""What sure watchers tell, and by which timed rows two of them part."""

from rowsintime.boxes import conditions_of
from rowsintime.covering import left_of
from rowsintime.errors import SameClock
from rowsintime.finding import all_lots, explore, shortest_way
from rowsintime.grids import table_of
from rowsintime.kinds import is_list
from rowsintime.lots import worths_of
from rowsintime.making import signals_of_both
from rowsintime.passing import begin_clocks, copied, let_time_pass, tighten_all, zero_grid
from rowsintime.runs import check_sure, check_timed_row, is_taken
from rowsintime.tables import Table
from rowsintime.timing import run_along
from rowsintime.watchers import is_one_of
from rowsintime.wholes import LESS, UNLIKE, Pair, standing_whole, telling_whole


def tells(watcher, row):
    check_sure(watcher)
    check_timed_row(row)
    return is_taken(watcher, row)


def told_alike(one, other):
    """Whether two watchers tell the same timed rows."""
    return not is_any_told(one, other, UNLIKE)


def told_within(one, other):
    """Whether the other one tells all that the one tells."""
    return not is_any_told(one, other, LESS)


def parting_row(one, other):
    """A timed row, with as few signals as any, that just one of two tells; None if there is none."""
    return first_told(one, other, UNLIKE)


def told_beyond(one, other):
    """A timed row, with as few signals as any, that the one tells and the other does not; None if there is none."""
    return first_told(one, other, LESS)


def pair_of(one, other, table):
    check_sure(one)
    check_sure(other)
    signals = signals_of_both(one, other)
    return Pair(signals, telling_whole(one, signals), telling_whole(other, signals), table)


def is_any_told(one, other, table):
    pair = pair_of(one, other, table)
    ends = pair.ends()
    return explore(pair.plan(), lambda to, grid: to in ends)[0]


def first_told(one, other, table):
    pair = pair_of(one, other, table)
    ends = pair.ends()
    plan = pair.plan()
    way = shortest_way(plan, lambda to, grid: to in ends)
    if way is None:
        return None
    return [(plan.arrows[number][1], time) for number, time in run_along(plan, way)]


def alike_list(one, other):
    """A list of places and tables that shows that two watchers are alike, None if they are not."""
    pair = stand_pair(one, other)
    clocks = one.clocks() + other.clocks()
    stands = [(pair.spots[at], grid) for at, grid in all_lots(pair.plan())]
    if not all([is_even(pair, spot) for spot, _ in stands]):
        return None
    return [(spot[0], spot[1], table_of(clocks, grid)) for spot, grid in stands]


def stand_pair(one, other):
    check_sure(one)
    check_sure(other)
    for clock in one.clocks():
        if clock in other.clocks():
            raise SameClock(clock)
    signals = signals_of_both(one, other)
    return Pair(signals, standing_whole(one, signals), standing_whole(other, signals), None)


def is_even(pair, spot):
    """Whether the one's place is an end exactly if the other's is."""
    return (spot[0] in pair.one.goals) == (spot[1] in pair.other.goals)


def shows_alike(one, other, thing):
    """Whether any object is a list that shows that two watchers are alike."""
    pair = stand_pair(one, other)
    if not is_list(thing) or not all([is_stand_lot(one, other, triple) for triple in thing]):
        return False
    lots = {}
    for place, second, table in thing:
        grid = worths_of(table)
        if grid is not None:
            lots.setdefault((place, second), []).append(grid)
    first = zero_grid(pair.width + 1)
    let_time_pass(first, [])
    if left_of(first, lots.get(pair.spots[0], [])) is not None:
        return False
    signals = signals_of_both(one, other)
    return all([is_even(pair, spot) and is_kept_up(pair, lots, spot, signals) for spot in lots])


def is_stand_lot(one, other, thing):
    if not is_list(thing) or len(thing) != 3 or not isinstance(thing[2], Table):
        return False
    if not is_place_or_none(one, thing[0]) or not is_place_or_none(other, thing[1]):
        return False
    return thing[2].names() == one.clocks() + other.clocks()


def is_place_or_none(watcher, thing):
    return thing is None or is_one_of(watcher.places(), thing)


def is_kept_up(pair, lots, spot, signals):
    """Whether all that signals lead to from the lots of a spot is within lots."""
    for signal in signals:
        for box, clocks, to in pair.moves_from(spot, signal):
            for grid in lots[spot]:
                behind = copied(grid)
                if not tighten_all(behind, conditions_of(box)):
                    continue
                begin_clocks(behind, clocks)
                let_time_pass(behind, [])
                if left_of(behind, lots.get(to, [])) is not None:
                    return False
    return True
