"""Watchers: places with limits, and arrows that look at signals with clocks."""

from rowsintime.bounds import is_upper
from rowsintime.errors import BadArrow, BadClocks, BadEnd, BadPlace, NoPlace
from rowsintime.kinds import bad_choice_at, bad_name_at, is_count, is_list, is_name

WORDS = ("from", "above", "upto", "below")


class Watcher:
    """A watcher with clocks; the first key of its limits is the place where it begins."""

    def __init__(self, clocks, limits, arrows, ends):
        check_clocks(clocks)
        check_limits(clocks, limits)
        check_arrows(clocks, limits, arrows)
        check_ends(limits, ends)
        self._clocks = list(clocks)
        self._places = list(limits)
        self._limits = {place: copied_limit(clocks, limits[place]) for place in limits}
        self._arrows = [copied_arrow(arrow) for arrow in arrows]
        self._ends = list(ends)

    def clocks(self):
        return list(self._clocks)

    def places(self):
        return list(self._places)

    def arrows(self):
        return list(self._arrows)

    def ends(self):
        return list(self._ends)

    def limit(self, place):
        """How long it can stand at a place: upper bounds by clocks."""
        if not is_one_of(self._limits, place):
            raise NoPlace(place)
        return dict(self._limits[place])

    def signals(self):
        """The ascending list of the signals."""
        heard = {arrow[1]: True for arrow in self._arrows if arrow[1] is not None}
        return sorted(heard)

    def __eq__(self, other):
        if not isinstance(other, Watcher) or self._clocks != other._clocks or self._places != other._places:
            return False
        return self._limits == other._limits and self._arrows == other._arrows and self._ends == other._ends


def is_one_of(names, thing):
    """Whether any object is one of some names."""
    return isinstance(thing, str) and thing in names


def check_clocks(clocks):
    bad = bad_name_at(clocks)
    if bad is not None:
        raise BadClocks(bad)


def check_limits(clocks, limits):
    if not isinstance(limits, dict) or not limits:
        raise BadPlace(None)
    for place in limits:
        if not is_name(place) or not is_limit(clocks, limits[place]):
            raise BadPlace(place)


def is_limit(clocks, thing):
    if not isinstance(thing, dict):
        return False
    return all([is_one_of(clocks, clock) and is_limit_bound(thing[clock]) for clock in thing])


def is_limit_bound(thing):
    return thing is not None and is_upper(thing) and thing[1] >= 0


def check_arrows(clocks, places, arrows):
    if not is_list(arrows):
        raise BadArrow(0)
    for at, arrow in enumerate(arrows):
        if not is_arrow(clocks, places, arrow):
            raise BadArrow(at)


def is_arrow(clocks, places, thing):
    if not is_list(thing) or len(thing) != 5:
        return False
    place, signal, cuts, begun, to = thing
    if not is_one_of(places, place) or not is_one_of(places, to):
        return False
    if signal is not None and not is_name(signal):
        return False
    if not is_list(cuts) or not all([is_cut(clocks, cut) for cut in cuts]):
        return False
    return bad_choice_at(begun, clocks) is None


def is_cut(clocks, thing):
    if not is_list(thing) or len(thing) != 3:
        return False
    return is_one_of(clocks, thing[0]) and is_one_of(WORDS, thing[1]) and is_count(thing[2])


def check_ends(places, ends):
    bad = bad_choice_at(ends, list(places))
    if bad is not None:
        raise BadEnd(bad)


def copied_limit(clocks, limit):
    return {clock: tuple(limit[clock]) for clock in clocks if clock in limit}


def copied_arrow(arrow):
    place, signal, cuts, begun, to = arrow
    return (place, signal, tuple([tuple(cut) for cut in cuts]), tuple(begun), to)
