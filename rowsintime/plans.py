"""Plans: watchers told by numbers, as grids are.

The clocks of a watcher are numbered from 1 on, in order; 0 is the begin, always worth 0. A CONDITION is a triple
(i, j, code): what i is more than j keeps the upper bound of this code. An arrow of a plan is a tuple
(place, signal, conditions, clocks, place): the conditions must hold at it, the clocks are those that it begins.
"""

from rowsintime.bounds import code_of


class Plan:
    """A watcher's places, by any keys, with conditions for limits, and its arrows; size is that of its grids."""

    def __init__(self, size, begin, limits, arrows):
        self.size = size
        self.begin = begin
        self.limits = limits
        self.arrows = arrows
        self.leaving = {place: [] for place in limits}
        for number, arrow in enumerate(arrows):
            self.leaving[arrow[0]].append(number)
        # Beyond these numbers of the clocks lots are let go.
        self.most = greatest_numbers(size, limits, arrows)
        # The code beyond those of all conditions.
        self.vast = 2 * max([0] + self.most[1:]) + 2
        # As many bits as a code in a grid needs: it is a sum of fewer codes of conditions than the grid has rows.
        self.width = (size * self.vast).bit_length() + 3
        self.age = None
        # Whether searches ask what cannot go, too: then worths that lead on to more are unlike those that lead to less.
        self.is_even = False


def greatest_numbers(size, limits, arrows):
    """The greatest number that a condition names for each clock, None for the begin."""
    numbers = [0 for _ in range(size)]
    lists = [limits[place] for place in limits] + [arrow[2] for arrow in arrows]
    for conditions in lists:
        for i, j, code in conditions:
            at = max(i, j)
            numbers[at] = max(numbers[at], abs(code // 2))
    return [None] + numbers[1:]


def horizons(plan):
    """For each place the LOWS and the HIGHS of the clocks: the greatest number that a condition from here on asks
    them to be from or above, and that it asks them to be upto or below, before they are begun again.

    -1 stands for none such; those of the begin and of the age are None: they are never let go.
    """
    kept = [at in (0, plan.age) for at in range(plan.size)]
    lows = {place: [None if is_kept else -1 for is_kept in kept] for place in plan.limits}
    highs = {place: list(lows[place]) for place in plan.limits}
    asked = [(place, plan.limits[place]) for place in plan.limits] + [(arrow[0], arrow[2]) for arrow in plan.arrows]
    for place, conditions in asked:
        for i, j, code in conditions:
            if not kept[i]:
                highs[place][i] = max(highs[place][i], code // 2)
            elif not kept[j]:
                lows[place][j] = max(lows[place][j], -(code // 2))
    spread_back(plan, lows)
    spread_back(plan, highs)
    if plan.is_even:
        lows = {place: greater_ones(lows[place], highs[place]) for place in lows}
        highs = lows
    return (lows, highs)


def greater_ones(numbers, others):
    return [None if number is None else max(number, other) for number, other in zip(numbers, others)]


def spread_back(plan, numbers):
    """Raise numbers in place to those of the places to which arrows go that do not begin the clock."""
    is_changed = True
    while is_changed:
        is_changed = False
        for place, _, _, begun, to in plan.arrows:
            for at in range(1, plan.size):
                if at != plan.age and at not in begun and numbers[to][at] > numbers[place][at]:
                    numbers[place][at] = numbers[to][at]
                    is_changed = True


def plan_of(watcher):
    numbers = clock_numbers(watcher)
    limits = {place: limit_conditions(numbers, watcher.limit(place)) for place in watcher.places()}
    arrows = [planned_arrow(numbers, limits, arrow) for arrow in watcher.arrows()]
    return Plan(len(numbers) + 1, watcher.places()[0], limits, arrows)


def clock_numbers(watcher):
    return {clock: at + 1 for at, clock in enumerate(watcher.clocks())}


def limit_conditions(numbers, limit):
    return [(numbers[clock], 0, code_of(limit[clock])) for clock in limit]


def planned_arrow(numbers, limits, arrow):
    place, signal, cuts, clocks, to = arrow
    begun = [numbers[clock] for clock in clocks]
    # Right behind the arrow a clock that it begins is worth 0, all others what they are at it.
    behind = [(0 if i in begun else i, j, code) for i, j, code in limits[to]]
    return (place, signal, limits[place] + [cut_condition(numbers, cut) for cut in cuts] + behind, begun, to)


def conditions_ahead(watcher):
    """For each arrow the conditions of its place and its cuts, not those of the place to which it goes."""
    numbers = clock_numbers(watcher)
    limits = {place: limit_conditions(numbers, watcher.limit(place)) for place in watcher.places()}
    return [limits[place] + [cut_condition(numbers, cut) for cut in cuts] for place, _, cuts, _, _ in watcher.arrows()]


def cut_condition(numbers, cut):
    clock, word, number = cut
    at = numbers[clock]
    if word in ("upto", "below"):
        return (at, 0, code_of((word, number)))
    # A clock is from n on just if the begin is upto -n more than it.
    return (0, at, code_of(("upto" if word == "from" else "below", -number)))


def with_age(plan, bounds, most):
    """The plan with one clock more, the age, that no arrow begins: bounds are codes that it keeps everywhere.

    Beyond most it is let go, never if most is None.
    """
    age = plan.size
    kept = [(age, 0, code) for code in bounds]
    limits = {place: plan.limits[place] + kept for place in plan.limits}
    arrows = [(place, signal, conditions + kept, begun, to) for place, signal, conditions, begun, to in plan.arrows]
    aged = Plan(age + 1, plan.begin, limits, arrows)
    aged.age = age
    aged.most[age] = most
    if not bounds:
        # Ages grow without end, but no search goes on for so long that these bits do not do.
        aged.width = aged.width + 40
    return aged


def in_whole_times(plan):
    """The plan whose runs have among them just those runs of this one all of whose times are integers."""
    limits = {place: whole_conditions(plan.limits[place]) for place in plan.limits}
    arrows = [(place, signal, whole_conditions(conditions), begun, to)
              for place, signal, conditions, begun, to in plan.arrows]
    return Plan(plan.size, plan.begin, limits, arrows)


def whole_conditions(conditions):
    """The conditions without below: integers below n are those upto n - 1."""
    return [(i, j, code if code % 2 == 1 else code - 1) for i, j, code in conditions]
