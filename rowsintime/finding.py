"""Searches through the lots that come: closed grids of the worths that clocks can have at a place."""

from heapq import heappop, heappush

from rowsintime.passing import ease, entry, first_entry, guards, packed, waited
from rowsintime.plans import horizons

# After how many lots a search step by step asks whether there is a way at all.
PATIENCE = 1000


class Lots:
    """Lots of a plan that were found, each with the lot ahead of it and the arrow between.

    Those within others are left out: what they lead to the others lead to, too.
    """

    def __init__(self, plan):
        self.plan = plan
        self.lows, self.highs = horizons(plan)
        self.guards = guards(plan.size, plan.width)
        self.spots = []
        self.grids = []
        self.steps = []
        self.seen = {}
        self.greatest = {}

    def put(self, place, grid, step):
        """Keep a lot, and tell whether it is within none that was kept before."""
        number = packed(grid, self.plan.width)
        if (place, number) in self.seen:
            return False
        self.seen[place, number] = True
        others = self.greatest.get(place, {})
        guarded = self.guards
        # Very many lots are held against one another: so this is written out here.
        low = number - guarded
        for other in others.values():
            if (other - low) & guarded == guarded:
                return False
        high = number + guarded
        kept = {at: other for at, other in others.items() if (high - other) & guarded != guarded}
        kept[len(self.spots)] = number
        self.greatest[place] = kept
        self.spots.append(place)
        self.grids.append(grid)
        self.steps.append(step)
        return True

    def put_entry(self, number, grid, ahead):
        """Keep what an arrow and all waits behind it make of a lot, told by the grid right behind the arrow."""
        to = self.plan.arrows[number][4]
        behind = waited(self.plan, to, grid)
        ease(behind, self.lows[to], self.highs[to])
        return self.put(to, behind, (ahead, number))

    def is_greatest(self, at):
        """Whether a lot is within none that was kept later."""
        return at in self.greatest[self.spots[at]]

    def entries(self, at):
        """All arrows that can go from a lot, with the place and the grid right behind each."""
        found = []
        for number in self.plan.leaving[self.spots[at]]:
            grid = entry(self.plan, self.grids[at], number)
            if grid is not None:
                found.append((number, self.plan.arrows[number][4], grid))
        return found

    def way(self, at):
        """The numbers of the arrows that lead to a lot."""
        numbers = []
        while self.steps[at] is not None:
            at, number = self.steps[at]
            numbers.append(number)
        return numbers[::-1]


class Queue:
    """Lots that wait to be gone on from: those of the least age first, of these the greatest first."""

    def __init__(self, lots):
        self.lots = lots
        self.heap = []
        self.put(0)

    def put(self, at):
        plan = self.lots.plan
        grid = self.lots.grids[at]
        age = 0 if plan.age is None else -grid[0][plan.age]
        size = sum([plan.vast if code is None else min(code, plan.vast) for row in grid for code in row])
        heappush(self.heap, (age, -size, at))

    def take(self):
        """The next lot, None if none is left; lots within others that were found meanwhile are left out."""
        while self.heap:
            _, _, at = heappop(self.heap)
            if self.lots.is_greatest(at):
                return at
        return None


def first_lots(plan, grid):
    """The lots of a plan, so far the one of the first place: told by the grid there at the time 0."""
    lots = Lots(plan)
    lots.put(plan.begin, waited(plan, plan.begin, grid), None)
    return lots


def explore(plan, is_wanted):
    """Whether an arrow, or none, leads to a place and a grid right behind it that are wanted, and the lots found.

    If there is none these are all lots that come.
    """
    grid = first_entry(plan)
    if grid is None:
        return (False, Lots(plan))
    lots = first_lots(plan, grid)
    if is_wanted(plan.begin, grid):
        return (True, lots)
    queue = Queue(lots)
    at = queue.take()
    while at is not None:
        for number, to, behind in lots.entries(at):
            if is_wanted(to, behind):
                return (True, lots)
            if lots.put_entry(number, behind, at):
                queue.put(len(lots.spots) - 1)
        at = queue.take()
    return (False, lots)


def shortest_way(plan, is_wanted):
    """As few arrows as can be that lead to what is wanted, None if none do."""
    grid = first_entry(plan)
    if grid is None:
        return None
    if is_wanted(plan.begin, grid):
        return []
    lots = first_lots(plan, grid)
    level = [0]
    is_sure = False
    while level:
        many = len(lots.spots)
        # Going on from great lots first finds out far sooner that there is no way than going step by step.
        if not is_sure and many > PATIENCE:
            is_sure = explore(plan, is_wanted)[0]
            if not is_sure:
                return None
        for at in level:
            for number, to, behind in lots.entries(at):
                if is_wanted(to, behind):
                    return lots.way(at) + [number]
                lots.put_entry(number, behind, at)
        # What lies within another lot to which as few arrows lead need not be gone on from.
        level = [at for at in range(many, len(lots.spots)) if lots.is_greatest(at)]
    return None


def all_lots(plan):
    """All lots that come, but those within others: pairs of a place and a grid."""
    _, lots = explore(plan, lambda place, grid: False)
    return [(place, lots.grids[at]) for at, place in enumerate(lots.spots) if lots.is_greatest(at)]
