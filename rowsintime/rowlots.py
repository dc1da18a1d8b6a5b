"""Lists of the lots to which one row of signals leads."""

from rowsintime.passing import ease, first_lot, flat, is_inside, led_to
from rowsintime.plans import horizons


class RowLots:
    """The lots of a plan by numbers, and which arrows lead from one to another.

    A list of lots is told as the ascending tuple of their numbers. Lots that another one of the same list holds are
    left out: what they lead to by any signals this one leads to, too.
    """

    def __init__(self, plan):
        self.plan = plan
        self.lows, self.highs = horizons(plan)
        self.spots = []
        self.grids = []
        self.codes = []
        self.numbers = {}
        self.steps = {}
        # For each lot the others that hold it: lists are very often many more than lots.
        self.holders = []

    def number(self, place, grid):
        codes = flat(grid)
        if (place, codes) not in self.numbers:
            self.numbers[place, codes] = len(self.spots)
            self.compare(len(self.spots), place, codes)
            self.spots.append(place)
            self.grids.append(grid)
            self.codes.append(codes)
        return self.numbers[place, codes]

    def compare(self, lot, place, codes):
        """Find out which lots so far hold a new one, and which it holds."""
        others = [at for at, spot in enumerate(self.spots) if spot == place]
        self.holders.append([at for at in others if is_inside(codes, self.codes[at])])
        for at in others:
            if is_inside(self.codes[at], codes):
                self.holders[at].append(lot)

    def ahead(self):
        """The list ahead of all signals: of one lot, or none if the limits of the first place do not hold at 0."""
        grid = first_lot(self.plan)
        return () if grid is None else (self.number(self.plan.begin, grid),)

    def steps_from(self, lot, signal):
        """The arrows by which a signal leads on from a lot, with the lots behind them."""
        if (lot, signal) not in self.steps:
            arrows = self.plan.arrows
            found = []
            for number in self.plan.leaving[self.spots[lot]]:
                grid = led_to(self.plan, self.grids[lot], number) if arrows[number][1] == signal else None
                if grid is not None:
                    to = arrows[number][4]
                    ease(grid, self.lows[to], self.highs[to])
                    found.append((number, self.number(to, grid)))
            self.steps[lot, signal] = found
        return self.steps[lot, signal]

    def behind(self, lots, signal):
        """The list to which a signal leads from a list."""
        found = {to: True for lot in lots for _, to in self.steps_from(lot, signal)}
        # No two lots of unlike numbers are equal, so not each of two can be within the other.
        return tuple([lot for lot in sorted(found) if not any([other in found for other in self.holders[lot]])])

    def lists_along(self, row):
        """The lists ahead of a row, behind its first signal, and so on."""
        lists = [self.ahead()]
        for signal in row:
            lists.append(self.behind(lists[-1], signal))
        return lists

    def ended(self, lots, ends):
        """The first lot of a list at one of the ends, None if there is none."""
        for lot in lots:
            if self.spots[lot] in ends:
                return lot
        return None

    def way(self, row, lists, lot):
        """The arrows that lead along the lists of a row to a lot of the last one."""
        numbers = []
        for at in range(len(row) - 1, -1, -1):
            number, lot = self.step_to(lists[at], row[at], lot)
            numbers.append(number)
        return numbers[::-1]

    def step_to(self, lots, signal, lot):
        """An arrow that leads to a lot, and the one of some lots from which it does."""
        steps = [(number, ahead) for ahead in lots for number, to in self.steps_from(ahead, signal) if to == lot]
        return steps[0]

    def all_lists(self, signals):
        """All lists to which rows lead, but the one of no lots, and the lanes (list, signal, list) between."""
        lists = [self.ahead()]
        numbers = {lists[0]: 0}
        lanes = []
        at = 0
        while at < len(lists):
            for signal in signals:
                lots = self.behind(lists[at], signal)
                if not lots:
                    continue
                if lots not in numbers:
                    numbers[lots] = len(lists)
                    lists.append(lots)
                lanes.append((at, signal, numbers[lots]))
            at += 1
        return (lists, lanes)
