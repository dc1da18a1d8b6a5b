"""Told rows: signals whose times were lost, or are told by bounds alone, along all ways through a watcher."""

from rowsintime.bounds import upper_of
from rowsintime.errors import (
    BadKnown, BadLooks, BadNumber, BadRow, BadTimes, BadWay, NoSignal, NoWay)
from rowsintime.gaps import (
    gap_over, leeway, leeway_by, loosest, shared_grid, worths_agreeing, worths_near)
from rowsintime.grids import table_of
from rowsintime.kinds import is_count, is_integer, is_list, is_name, letters
from rowsintime.lotting import fewest_lots
from rowsintime.misfits import clashes, strain, told_rows, worths_beside
from rowsintime.pieces import lots_of
from rowsintime.plans import plan_of
from rowsintime.ratios import lowest
from rowsintime.runs import check_seen
from rowsintime.steps import can_begin
from rowsintime.stretches import ANY_NUMBER, met, stretch_of
from rowsintime.trails import gone_on, trail_at
from rowsintime.watchers import WORDS, is_one_of


class Told:
    """A row of signals, numbered from 1 on; 0 is the begin. Its ways have a closed grid of their times each."""

    def __init__(self, watcher, row, known=None):
        check_seen(watcher)
        check_names(row)
        check_known(known, len(row))
        self._watcher = watcher
        self._row = list(row)
        self._known = copied_known(known)
        self._names = [letters(at) for at in range(len(row))]
        self._grids = grids_of_ways(plan_of(watcher), self._row, self._known)
        if not self._grids:
            raise NoWay()

    def row(self):
        return list(self._row)

    def __len__(self):
        return len(self._row)

    def __eq__(self, other):
        if not isinstance(other, Told) or self._watcher != other._watcher:
            return False
        return self._row == other._row and self._known == other._known

    def ways(self):
        """The ways, in order."""
        return list(self._grids)

    def table(self, way):
        """The closed table of the points of a way."""
        return table_of(self._names, self._grid(way))

    def gap(self, i, j):
        """The tightest bounds of the time of j less that of i."""
        self._check_signals([i, j])
        return gap_over([(grid, i, j) for grid in self._grids.values()])

    def reached(self, i, j):
        """Ways and points in which the bounds of gap are come to, or nearly so if told with above and below."""
        self._check_signals([i, j])
        return (self._reaching(i, j), self._reaching(j, i))

    def leaves(self, way, looks, i):
        """How far apart the times of i can be in points of one way that agree in looks."""
        grid = self._grid(way)
        self._check_looks(looks)
        self._check_signals([i])
        return upper_of(leeway(grid, [0] + list(looks), i))

    def stiff(self, way):
        """The lots of numbers whose differences are the same in all points of a way."""
        return [tuple(lot) for lot in lots_of(self._grid(way))]

    def known_by(self, way, looks):
        """The numbers whose times are sure behind looks by a way."""
        grid = self._grid(way)
        self._check_looks(looks)
        lots = [lot for lot in lots_of(grid) if any([number in lot for number in [0] + list(looks)])]
        return tuple(sorted([number for lot in lots for number in lot]))

    def wide(self, looks, i):
        """How far apart the times of i can be in points of any ways that agree in looks."""
        self._check_looks(looks)
        self._check_signals([i])
        return upper_of(self._width([0] + list(looks), i))

    def fewest_looks(self, w):
        """All looks, as few as can be, behind which each time is known up to w."""
        if not is_count(w):
            raise BadNumber(w)
        return fewest_lots(self._numbers(), lambda looks: self._is_narrow(looks, w))

    def mistaken(self, one, other, looks):
        """Points of two ways that agree in looks, None if there are none."""
        grids = (self._grid(one), self._grid(other))
        self._check_looks(looks)
        found = worths_agreeing(grids[0], grids[1], [0] + list(looks))
        return None if found is None else (self._point(found[0]), self._point(found[1]))

    def parting_looks(self):
        """All looks, as few as can be, by which all ways are told apart."""
        return fewest_lots(self._numbers(), self._are_parted)

    def moved(self, times):
        """How far told times have to be moved to fit, and whether so much is enough."""
        halves, is_missed, _ = self._least_strain(self._told(times))
        return (lowest(halves, 2), not is_missed)

    def moved_to(self, times):
        """A way and a point that told times can be moved to."""
        told = self._told(times)
        halves, is_missed, way = self._least_strain(told)
        return (way, self._point(worths_beside(self._grids[way], told, halves, is_missed)))

    def believes(self, way, times, lot):
        """Whether a point of a way has all told times but those of a lot."""
        grid = self._grid(way)
        told = self._told(times)
        self._check_looks(lot)
        return are_left_out(clashes(grid, told), lot)

    def fewest_wrong(self, times):
        """All lots, as small as can be, without whose told times some way believes the others, each with such a way."""
        told = self._told(times)
        broken = {way: clashes(self._grids[way], told) for way in self._grids}
        lots = fewest_lots([row for row in told if row > 0], lambda lot: bool(believing(broken, lot)))
        return [(lot, believing(broken, lot)[0]) for lot in lots]

    def _grid(self, way):
        if not is_list(way) or not all([is_integer(number) for number in way]) or tuple(way) not in self._grids:
            raise BadWay(way)
        return self._grids[tuple(way)]

    def _numbers(self):
        return list(range(1, len(self._row) + 1))

    def _point(self, worths):
        return {name: worths[at + 1] for at, name in enumerate(self._names)}

    def _check_signals(self, things):
        for thing in things:
            if not is_count(thing) or thing > len(self._row):
                raise NoSignal(thing)

    def _check_looks(self, looks):
        if not is_list(looks):
            raise BadLooks(0)
        seen = {}
        for at, look in enumerate(looks):
            if not is_integer(look) or not 1 <= look <= len(self._row) or look in seen:
                raise BadLooks(at)
            seen[look] = True

    def _told(self, times):
        """The told times by rows of grids."""
        if not is_list(times):
            raise BadTimes(0)
        for at, time in enumerate(times):
            if time is not None and not is_count(time):
                raise BadTimes(at)
        if len(times) != len(self._row):
            raise BadTimes(len(self._row))
        return told_rows(times)

    def _reaching(self, low, high):
        """A way and a point for the lower bound of how much more high is than low, told as the contrary's upper one."""
        code = loosest([grid[low][high] for grid in self._grids.values()])
        if code is None:
            return None
        ways = [way for way in self._grids if self._grids[way][low][high] == code]
        return (ways[0], self._point(worths_near(self._grids[ways[0]], low, high)))

    def _shared(self, rows):
        """The grids of each two ways, also of one twice, with points that agree in rows, and what they share there."""
        grids = list(self._grids.values())
        found = [(one, shared_grid(one, other, rows), other) for one in grids for other in grids]
        return [triple for triple in found if triple[1] is not None]

    def _width(self, rows, at):
        return loosest([leeway_by(one, shared, other, rows, at) for one, shared, other in self._shared(rows)])

    def _is_narrow(self, looks, w):
        """Whether each time is known up to w behind looks."""
        rows = [0] + list(looks)
        for one, shared, other in self._shared(rows):
            for at in self._numbers():
                code = leeway_by(one, shared, other, rows, at)
                if code is None or code // 2 > w:
                    return False
        return True

    def _are_parted(self, looks):
        """Whether no two unlike ways have points that agree in looks: each way has some that agree with its own."""
        return len(self._shared([0] + list(looks))) == len(self._grids)

    def _least_strain(self, told):
        """The least strain of told times by any way, with the first way that has it."""
        strains = [strain(self._grids[way], told) + (way,) for way in self._grids]
        return min(strains)


def check_names(row):
    if not is_list(row):
        raise BadRow(0)
    for at, signal in enumerate(row):
        if not is_name(signal):
            raise BadRow(at)


def check_known(known, many):
    if known is None:
        return
    if not isinstance(known, dict):
        raise BadKnown(None)
    for key in known:
        if not is_integer(key) or not 1 <= key <= many or not are_bounds(known[key]):
            raise BadKnown(key)


def are_bounds(thing):
    return is_list(thing) and all([is_told_bound(pair) for pair in thing])


def is_told_bound(thing):
    return is_list(thing) and len(thing) == 2 and is_one_of(WORDS, thing[0]) and is_count(thing[1])


def copied_known(known):
    """What is known by numbers of signals, without empty lists."""
    if known is None:
        return {}
    return {number: [tuple(pair) for pair in known[number]] for number in known if known[number]}


def known_stretch(pairs):
    """The stretch of the times that keep all of some bounds, None if there are none."""
    stretch = ANY_NUMBER
    for word, n in pairs:
        if stretch is not None:
            stretch = met(stretch, stretch_of(word, n))
    return stretch


def grids_of_ways(plan, row, known):
    """The closed grids of the times of all ways, by ways in order."""
    trails = [trail_at(plan, plan.begin)] if can_begin(plan) else []
    for at, signal in enumerate(row):
        stretch = known_stretch(known.get(at + 1, []))
        numbers = [] if stretch is None else [k for k, arrow in enumerate(plan.arrows) if arrow[1] == signal]
        trails = [gone_on(plan, trail, number, stretch) for trail in trails for number in numbers
                  if plan.arrows[number][0] == trail.place]
        trails = [trail for trail in trails if trail is not None]
    return {trail.way: trail.grid for trail in trails}


def are_left_out(broken, lot):
    """Whether of each pair of rows one at least is in a lot."""
    return all([i in lot or j in lot for i, j in broken])


def believing(broken, lot):
    """The ways that believe all told times but those of a lot."""
    return [way for way in broken if are_left_out(broken[way], lot)]
