"""Sets of rows of signals."""

from rowsintime.errors import BadLane, BadNumber, BadRow, BadSignals, BadSpot, UnlikeSignals
from rowsintime.kinds import bad_name_at, is_count, is_list
from rowsintime.machines import (
    count_of, count_of_all, first_row, lanes_of, least_machine, paired_lanes, rows_up_to, spot_behind)


class Rows:
    """A set of rows, kept as its least machine: so it is the same whatever it was made of."""

    def __init__(self, signals, lanes, firsts, ends):
        check_signals(signals)
        check_lanes(signals, lanes)
        check_spots(firsts, ends)
        self._signals = sorted(signals)
        self._machine = least_machine(self._signals, lanes, firsts, ends)

    def signals(self):
        return list(self._signals)

    def least(self):
        return (self._machine[0], lanes_of(self._machine), list(self._machine[2]))

    def is_within(self, other):
        """Whether all rows are rows of the other one."""
        return (self - other).first() is None

    def first(self):
        return first_row(self._signals, self._machine)

    def many(self):
        """How many rows there are, None for endlessly many."""
        return count_of_all(self._machine)

    def count(self, n):
        """How many rows have just n signals."""
        if not is_count(n):
            raise BadNumber(n)
        return count_of(self._machine, n)

    def listed(self, n):
        """All rows that have at most n signals, in order."""
        if not is_count(n):
            raise BadNumber(n)
        return rows_up_to(self._signals, self._machine, n)

    def begun(self):
        """The set of all beginnings of rows."""
        many, _, ends = self._machine
        # Of a least machine an end is come to from each spot, but where there is no row at all.
        return Rows(self._signals, lanes_of(self._machine), [0], list(range(many)) if ends else [])

    def behind(self, row):
        """The set of what follows a beginning."""
        check_row(self._signals, row)
        spot = spot_behind(self._machine, row)
        firsts = [] if spot is None else [spot]
        return Rows(self._signals, lanes_of(self._machine), firsts, self._machine[2])

    def __contains__(self, thing):
        return is_list(thing) and spot_behind(self._machine, thing) in self._machine[2]

    def __eq__(self, other):
        return isinstance(other, Rows) and self._signals == other._signals and self._machine == other._machine

    def __and__(self, other):
        return chosen(self, other, ((True, True),))

    def __or__(self, other):
        return chosen(self, other, ((True, True), (True, False), (False, True)))

    def __sub__(self, other):
        return chosen(self, other, ((True, False),))

    def __xor__(self, other):
        return chosen(self, other, ((True, False), (False, True)))

    def __invert__(self):
        return chosen(self, self, ((False, False),))


def parting(one, other):
    """The first row that just one of two sets has, None if there is none."""
    return (one ^ other).first()


def chosen(one, other, kept):
    """The rows for which the pair of truths, whether one and whether other has it, is one of those kept."""
    if one._signals != other._signals:
        raise UnlikeSignals()
    lanes, ends = paired_lanes(one._signals, one._machine, other._machine, kept)
    return Rows(one._signals, lanes, [0], ends)


def check_signals(signals):
    bad = bad_name_at(signals)
    if bad is not None:
        raise BadSignals(bad)


def check_lanes(signals, lanes):
    if not is_list(lanes):
        raise BadLane(0)
    for at, lane in enumerate(lanes):
        if not is_lane(signals, lane):
            raise BadLane(at)


def is_lane(signals, thing):
    if not is_list(thing) or len(thing) != 3:
        return False
    return is_count(thing[0]) and is_signal_or_none(signals, thing[1]) and is_count(thing[2])


def is_signal_or_none(signals, thing):
    return thing is None or (isinstance(thing, str) and thing in signals)


def check_spots(firsts, ends):
    if not is_list(firsts):
        raise BadSpot(0)
    for at, spot in enumerate(firsts):
        if not is_count(spot):
            raise BadSpot(at)
    if not is_list(ends):
        raise BadSpot(len(firsts))
    for at, spot in enumerate(ends):
        if not is_count(spot):
            raise BadSpot(len(firsts) + at)


def check_row(signals, row):
    if not is_list(row):
        raise BadRow(0)
    for at, signal in enumerate(row):
        if not isinstance(signal, str) or signal not in signals:
            raise BadRow(at)
