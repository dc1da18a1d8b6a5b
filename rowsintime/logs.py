"""Logs: what was heard of a watcher some of whose arrows nobody sees, perhaps at lost times."""

from rowsintime.bounds import is_kept, tighter_code, upper_of
from rowsintime.errors import Apart, BadPath, Crossed, NoArrow, NoClock, NoEntry, NoPlace
from rowsintime.gaps import gap_over
from rowsintime.grids import table_of
from rowsintime.kinds import is_count, is_integer, is_list, letters
from rowsintime.logways import (
    are_paths, candidate_bounds, check_entries, check_entry_forms, check_no_loop, do_fall, heard_rows, is_candidate,
    parts_of_log, trails_of)
from rowsintime.lotting import fewest_lots
from rowsintime.plans import clock_numbers, plan_of
from rowsintime.points import ring, worths_in
from rowsintime.ratios import difference
from rowsintime.steps import stand_behind
from rowsintime.stretches import ANY_NUMBER
from rowsintime.tables import Table
from rowsintime.trails import gone_on
from rowsintime.watchers import is_one_of

NOW = "now"


class Log:
    """A log: its paths have a trail each, whose last time is now."""

    def __init__(self, watcher, entries):
        check_no_loop(watcher)
        check_entries(entries)
        self._watcher = watcher
        self._entries = [tuple(entry) for entry in entries]
        self._plan = plan_of(watcher)
        self._parts = parts_of_log(self._entries)
        self._trails = {trail.way: trail for trail in trails_of(self._plan, self._parts, False)}
        if not self._trails:
            raise Crossed(first_crossed(self._plan, self._entries))

    def entries(self):
        return list(self._entries)

    def __len__(self):
        return len(self._entries)

    def __eq__(self, other):
        return isinstance(other, Log) and self._watcher == other._watcher and self._entries == other._entries

    def is_run(self, thing):
        """Whether any object is a run of the log."""
        if stand_behind(self._plan, thing) is None:
            return False
        trail = self._trails.get(tuple([number for number, _ in thing]))
        return trail is not None and are_times_of(trail.grid, [time for _, time in thing])

    def run(self):
        return run_by(list(self._trails.values())[0])

    def paths(self):
        """The paths, in order."""
        return list(self._trails)

    def table(self, path):
        """The closed table of the times of the arrows of a path and of now."""
        if not self._is_way(path) or tuple(path) not in self._trails:
            raise BadPath(path)
        return table_of(names_of_times(path), self._trails[tuple(path)].grid)

    def barred(self, thing):
        """A ring that bars a candidate that is no path; None for a path."""
        if not self._is_way(thing) or not is_candidate(self._plan, self._parts[0], thing):
            raise BadPath(thing)
        spots = [""] + names_of_times(thing)
        codes = {}
        for i, j, code in candidate_bounds(self._plan, self._parts, thing):
            pair = (spots[i], spots[j])
            codes[pair] = tighter_code(codes.get(pair), code)
        return ring(Table(spots[1:], {pair: upper_of(codes[pair]) for pair in codes}))

    def at(self, place):
        """Whether it stands at a place now."""
        self._check_place(place)
        return verdict([trail.place == place for trail in self._trails.values()])

    def went(self, arrow):
        """Whether an arrow was gone."""
        self._check_arrow(arrow)
        return verdict([arrow in way for way in self._trails])

    def went_ahead(self, one, other):
        """Whether one arrow was gone, the last time, ahead of another one, where both were."""
        self._check_arrow(one)
        self._check_arrow(other)
        rows = [(last_row(way, one), last_row(way, other)) for way in self._trails if one in way and other in way]
        if not rows:
            raise Apart()
        return verdict([first < second for first, second in rows])

    def shown(self, place):
        """A run for what at tells of a place; two of them if it is open."""
        self._check_place(place)
        there = [trail for trail in self._trails.values() if trail.place == place]
        others = [trail for trail in self._trails.values() if trail.place != place]
        if there and others:
            return (run_by(there[0]), run_by(others[0]))
        return run_by((there + others)[0])

    def worth(self, clock):
        """The bounds of a clock's worth now."""
        if not is_one_of(self._watcher.clocks(), clock):
            raise NoClock(clock)
        number = clock_numbers(self._watcher)[clock]
        return gap_over([(trail.grid, trail.lasts[number], trail.last_row()) for trail in self._trails.values()])

    def time_of(self, index):
        """The bounds of the time of an entry."""
        if not is_count(index) or index >= len(self._entries):
            raise NoEntry(index)
        signal, time = self._entries[index]
        if signal is None:
            return (("from", time), ("upto", time))
        at = len([entry for entry in self._entries[:index] if entry[0] is not None])
        return gap_over([(self._trails[way].grid, 0, heard_rows(self._plan, way)[at]) for way in self._trails])

    def time_gone(self, arrow):
        """The bounds of the time at which an arrow was gone last, None if no run has it."""
        self._check_arrow(arrow)
        spots = [(self._trails[way].grid, 0, last_row(way, arrow)) for way in self._trails if arrow in way]
        return gap_over(spots) if spots else None

    def time_now(self):
        """The bounds of now."""
        return gap_over([(trail.grid, 0, trail.last_row()) for trail in self._trails.values()])

    def next_ones(self):
        """The signals that can be heard next, with the bounds of the time at which they are."""
        spots = {}
        trails = list(self._trails.values())
        while trails:
            behind = [gone_on(self._plan, trail, number, ANY_NUMBER) for trail in trails
                      for number in self._plan.leaving[trail.place]]
            trails = []
            for trail in [longer for longer in behind if longer is not None]:
                signal = self._plan.arrows[trail.way[-1]][1]
                if signal is None:
                    trails.append(trail)
                else:
                    spots.setdefault(signal, []).append((trail.grid, 0, trail.last_row()))
        return {signal: gap_over(spots[signal]) for signal in sorted(spots)}

    def more(self, signal, time=None):
        """The log with an entry more."""
        return Log(self._watcher, self._entries + [(signal, time)])

    def _is_way(self, thing):
        """Whether any object is a list of numbers of arrows."""
        return is_list(thing) and all([self._is_arrow(number) for number in thing])

    def _is_arrow(self, thing):
        return is_integer(thing) and 0 <= thing < len(self._plan.arrows)

    def _check_arrow(self, thing):
        if not self._is_arrow(thing):
            raise NoArrow(thing)

    def _check_place(self, thing):
        if not is_one_of(self._watcher.places(), thing):
            raise NoPlace(thing)


def first_crossed(plan, entries):
    """The index of the first entry such that a log of those up to it has no run."""
    many = 1
    while many < len(entries) and are_paths(plan, entries[:many]):
        many += 1
    return many - 1


def verdict(truths):
    if all(truths):
        return "sure"
    return "open" if any(truths) else "never"


def names_of_times(path):
    return [letters(at) for at in range(len(path))] + [NOW]


def last_row(way, arrow):
    """The row of the time at which an arrow of a way was gone last."""
    return max([at + 1 for at, number in enumerate(way) if number == arrow])


def run_by(trail):
    """A run by the way of a trail."""
    worths = worths_in(trail.grid, 1)
    return [(number, worths[at + 1]) for at, number in enumerate(trail.way)]


def are_times_of(grid, times):
    """Whether times, behind the begin, keep the bounds of a closed grid among themselves: then there are the others."""
    worths = [(0, 1)] + times
    for i, one in enumerate(worths):
        for j, other in enumerate(worths):
            if grid[i][j] is not None and not is_kept(grid[i][j], difference(one, other)):
                return False
    return True


def lost(log):
    """The log in which all signals have lost times, and no moments are."""
    return Log(log._watcher, [(signal, None) for signal, _ in log.entries() if signal is not None])


def least_lost(watcher, entries):
    """All tuples of as few indexes as can be without whose times there is a log."""
    check_no_loop(watcher)
    check_entry_forms(entries)
    plan = plan_of(watcher)
    told = [at for at, entry in enumerate(entries) if entry[1] is not None]
    return fewest_lots(told, lambda lot: is_log(plan, without_times(entries, lot)))


def without_times(entries, lot):
    """The entries, with the times of a lot of them lost; moments without a time are left out."""
    kept = [(signal, None if at in lot else time) for at, (signal, time) in enumerate(entries)]
    return [pair for pair in kept if pair != (None, None)]


def is_log(plan, entries):
    return not do_fall(entries) and are_paths(plan, entries)
