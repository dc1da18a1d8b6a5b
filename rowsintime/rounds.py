"""Rounds: leaps from fresh arrow to fresh arrow and round, how fast and how slow they can be gone."""

from rowsintime.errors import BadNumber, NoRound
from rowsintime.kinds import is_count
from rowsintime.leaping import all_leaps, check_mean, end_of, round_of, rounds_in
from rowsintime.plans import plan_of
from rowsintime.ratios import is_less, lowest, total
from rowsintime.timing import run_along, run_up_to


def leaps(watcher):
    """All leaps (start, leg, least, greatest), in order."""
    return all_leaps(watcher)


def is_round(watcher, thing):
    return round_of(all_leaps(watcher), thing) is not None


def round_time(watcher, thing):
    """The bounds of the time of a round, and how many arrows it has."""
    found = checked_round(all_leaps(watcher), thing)
    return (least_of(found), greatest_of(found), arrows_of(found))


def checked_round(found, thing):
    checked = round_of(found, thing)
    if checked is None:
        raise NoRound(thing)
    return checked


def least_of(way):
    """The lower bound of the time of a round."""
    bounds = [least for _, _, least, _ in way]
    word = "from" if all([bound[0] == "from" for bound in bounds]) else "above"
    return (word, sum([bound[1] for bound in bounds]))


def greatest_of(way):
    """The upper bound of the time of a round, None if it has none."""
    bounds = [greatest for _, _, _, greatest in way]
    if None in bounds:
        return None
    word = "upto" if all([bound[0] == "upto" for bound in bounds]) else "below"
    return (word, sum([bound[1] for bound in bounds]))


def arrows_of(way):
    return sum([len(leg) for _, leg, _, _ in way])


def legs_of(way):
    return tuple([leg for _, leg, _, _ in way])


def mean_of(bound, way):
    return lowest(bound[1], arrows_of(way))


def fastest(watcher):
    """The least mean of all rounds, whether it is taken, and a round with it; None if there are no rounds."""
    best = None
    for way in rounds_in(all_leaps(watcher)):
        bound = least_of(way)
        found = (mean_of(bound, way), bound[0] == "from", legs_of(way))
        if best is None or is_less(found[0], best[0]) or (found[0] == best[0] and found[1] and not best[1]):
            best = found
    return best


def slowest(watcher):
    """The greatest slow mean of all rounds, None if one has none, whether it is taken, and a round with it."""
    best = None
    for way in rounds_in(all_leaps(watcher)):
        bound = greatest_of(way)
        if bound is None:
            return (None, False, legs_of(way))
        found = (mean_of(bound, way), bound[0] == "upto", legs_of(way))
        if best is None or is_less(best[0], found[0]) or (found[0] == best[0] and found[1] and not best[1]):
            best = found
    return best


def faster(watcher, mean):
    """A round with a mean less than a fraction, None if there is none."""
    found = all_leaps(watcher)
    check_mean(mean)
    for way in rounds_in(found):
        if is_less(mean_of(least_of(way), way), mean):
            return legs_of(way)
    return None


def slower(watcher, mean):
    """A round with a slow mean greater than a fraction, or with none; None if there is no such round."""
    found = all_leaps(watcher)
    check_mean(mean)
    for way in rounds_in(found):
        bound = greatest_of(way)
        if bound is None or is_less(mean, mean_of(bound, way)):
            return legs_of(way)
    return None


def laps(watcher, thing, many):
    """A run that goes many times round a round, each time as fast as it can be, or less than 1 longer."""
    found = all_leaps(watcher)
    way = checked_round(found, thing)
    if not is_count(many) or many == 0:
        raise BadNumber(many)
    plan = plan_of(watcher)
    ahead = [run_along(plan, leg) for _, leg, _, _ in leaps_to(found, way[0][0])]
    # All that the legs take longer than their leasts is less than 1 together.
    parts = len(way) + 1
    lap = [run_up_to(plan, leg, end_for(least, parts)) for _, leg, least, _ in way]
    return one_behind_another(ahead + [run for _ in range(many) for run in lap])


def leaps_to(found, goal):
    """As few leaps as can be that lead from the begin to a start."""
    ways = {None: []}
    level = [None]
    while goal not in ways:
        behind = []
        for leap in found:
            if leap[0] in level and end_of(leap) not in ways:
                ways[end_of(leap)] = ways[leap[0]] + [leap]
                behind.append(end_of(leap))
        level = behind
    return ways[goal]


def end_for(least, parts):
    """The time at which a leg ends: its least, or one of so many parts of a unit more if it has to be above it."""
    word, n = least
    return (n, 1) if word == "from" else lowest(n * parts + 1, parts)


def one_behind_another(runs):
    """The run by some runs, each of which begins at 0, one behind another."""
    whole = []
    begin = (0, 1)
    for run in runs:
        whole.extend([(number, total(begin, time)) for number, time in run])
        begin = whole[-1][1]
    return whole
