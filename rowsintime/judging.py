"""What is sure, or never so, of all timed rows that end at an end of a watcher."""

from rowsintime.bounds import upper_of
from rowsintime.boxes import conditions_of
from rowsintime.errors import BadNumber, NoRow
from rowsintime.finding import explore, shortest_way
from rowsintime.kinds import is_count
from rowsintime.machines import quietly_reached, steps_of
from rowsintime.plans import Plan, plan_of
from rowsintime.rules import checked_plain, checked_rule, signals_of, watcher_for
from rowsintime.runs import check_seen
from rowsintime.stretches import lower_told
from rowsintime.timing import run_along
from rowsintime.wholes import telling_whole


class Hearing:
    """A watcher beside a whole one that tells just the rows that keep a rule: both hear the same.

    Its spots are pairs of their places. An arrow is one of the watcher's, at worths at which the whole one moves on
    to one place; it has the number of the watcher's in the place of its signal.
    """

    def __init__(self, watcher, rule):
        signals = sorted(set(watcher.signals() + signals_of(rule)))
        self.ends = watcher.ends()
        self.plan = plan_of(watcher)
        self.whole = telling_whole(watcher_for(rule, signals), signals)
        self.spots = [(self.plan.begin, self.whole.begin)]
        self.arrows = []
        numbers = {self.spots[0]: 0}
        at = 0
        while at < len(self.spots):
            for source, conditions, clocks, to in self.moves_from(self.spots[at]):
                if to not in numbers:
                    numbers[to] = len(self.spots)
                    self.spots.append(to)
                self.arrows.append((at, source, conditions, clocks, numbers[to]))
            at += 1

    def moves_from(self, spot):
        place, other = spot
        # The clocks of the whole one are numbered behind those of the watcher.
        shift = self.plan.size - 1
        found = []
        for number in self.plan.leaving[place]:
            _, signal, conditions, begun, to = self.plan.arrows[number]
            for box, clocks, behind in self.whole.moves_from(other, signal):
                more = [(shifted(i, shift), shifted(j, shift), code) for i, j, code in conditions_of(box)]
                found.append((number, conditions + more, begun + [clock + shift for clock in clocks], (to, behind)))
        return found

    def goals(self, is_kept):
        """The numbers of the spots at which a row ends that keeps the rule, or that does not, as a dict of True."""
        return {at: True for at, spot in enumerate(self.spots)
                if spot[0] in self.ends and (spot[1] in self.whole.goals) == is_kept}

    def plan_to(self, goals):
        """The plan of all by which goals can be come to."""
        back = steps_of([(to, None, at) for at, _, _, _, to in self.arrows])
        useful = {at: True for at in quietly_reached(back, list(goals) + [0])}
        arrows = [arrow for arrow in self.arrows if arrow[0] in useful and arrow[4] in useful]
        limits = {at: self.plan.limits[self.spots[at][0]] for at in useful}
        return Plan(self.plan.size + self.whole.width, 0, limits, arrows)

    def is_any(self, is_kept):
        """Whether a row ends at an end that keeps the rule, or that does not."""
        goals = self.goals(is_kept)
        return explore(self.plan_to(goals), lambda to, grid: to in goals)[0]

    def shortest_run(self, is_kept):
        """A run, with as few arrows as any, whose row ends at an end and keeps the rule, or does not; None if none."""
        goals = self.goals(is_kept)
        plan = self.plan_to(goals)
        way = shortest_way(plan, lambda to, grid: to in goals)
        if way is None:
            return None
        return [(plan.arrows[number][1], time) for number, time in run_along(plan, way)]


def shifted(clock, shift):
    return 0 if clock == 0 else clock + shift


def judged(watcher, rule):
    """Whether the timed rows that end at an end keep a rule: sure, never or open."""
    check_seen(watcher)
    hearing = Hearing(watcher, checked_rule(rule))
    is_any_kept = hearing.is_any(True)
    if not hearing.is_any(False):
        if not is_any_kept:
            raise NoRow()
        return "sure"
    return "open" if is_any_kept else "never"


def keeping(watcher, rule):
    """A run that ends at an end and whose timed row keeps a rule, None if there is none."""
    check_seen(watcher)
    return Hearing(watcher, checked_rule(rule)).shortest_run(True)


def breaking(watcher, rule):
    """A run that ends at an end and whose timed row does not keep a rule, None if there is none."""
    check_seen(watcher)
    return Hearing(watcher, checked_rule(rule)).shortest_run(False)


def tightest(watcher, rule, most):
    """The tightest bound with a number up to most for which a since or a soon is sure, None if there is none."""
    check_seen(watcher)
    told = checked_plain(rule)
    if not has_row(watcher):
        raise NoRow()
    if not is_count(most):
        raise BadNumber(most)
    many = 2 * most + 2
    # What is sure by a bound is so by each looser one: so the first one that is sure can be halved in on.
    low, high = 0, many
    while low < high:
        middle = (low + high) // 2
        if is_sure(watcher, told[:3] + bound_at(told[3], many, middle)):
            high = middle
        else:
            low = middle + 1
    return bound_at(told[3], many, low) if low < many else None


def has_row(watcher):
    """Whether some timed row ends at an end."""
    ends = watcher.ends()
    return explore(plan_of(watcher), lambda to, grid: to in ends)[0]


def bound_at(word, many, at):
    """One of so many bounds of the sort of a word, tighter ones first."""
    return upper_of(at) if word in ("upto", "below") else lower_told(many - 1 - at)


def is_sure(watcher, rule):
    """Whether no timed row that ends at an end breaks a rule."""
    return not Hearing(watcher, rule).is_any(False)
