"""Heights of starts: they show that no round is faster, or slower, than a mean."""

from rowsintime.kinds import is_fraction, is_integer
from rowsintime.leaping import all_leaps, check_mean, leaps_of_rounds
from rowsintime.points import heights_of
from rowsintime.ratios import lowest


def fast_heights(watcher, mean):
    """Heights by starts that show that no round has a mean less than this one, None if there are none."""
    found = asked_leaps(watcher, mean)
    return heights_for(starts_of(found), fast_steps(found, mean), mean)


def slow_heights(watcher, mean):
    """Heights by starts that show that all rounds have slow means, and none a greater one; None if there are none."""
    found = asked_leaps(watcher, mean)
    if are_endless(found):
        return None
    fallen = heights_for(starts_of(found), slow_steps(found, mean), mean)
    return None if fallen is None else {start: (-fallen[start][0], fallen[start][1]) for start in fallen}


def asked_leaps(watcher, mean):
    """The leaps of rounds."""
    found = all_leaps(watcher)
    check_mean(mean)
    return leaps_of_rounds(found)


def are_endless(found):
    """Whether some leap has no greatest."""
    return None in [greatest for _, _, _, greatest in found]


def starts_of(found):
    return sorted(set([start for start, _, _, _ in found]))


def fast_steps(found, mean):
    """Triples of a start, a last arrow, and how much higher this one may be at most, in parts of the mean."""
    top, bottom = lowest(mean[0], mean[1])
    return [(start, leg[-1], least[1] * bottom - top * len(leg)) for start, leg, least, _ in found]


def slow_steps(found, mean):
    """As fast_steps, of the contraries of slow heights."""
    top, bottom = lowest(mean[0], mean[1])
    return [(start, leg[-1], top * len(leg) - greatest[1] * bottom) for start, leg, _, greatest in found]


def heights_for(starts, steps, mean):
    """The greatest heights, from 0 down, that keep steps told in parts of a mean; None if there are none."""
    if not starts:
        return {}
    least = [[None for _ in starts] for _ in starts]
    for start, end, step in steps:
        i, j = starts.index(end), starts.index(start)
        least[i][j] = step if least[i][j] is None else min(least[i][j], step)
    heights = heights_of(least)
    if heights is None:
        return None
    bottom = lowest(mean[0], mean[1])[1]
    return {start: lowest(heights[at], bottom) for at, start in enumerate(starts)}


def are_fast_heights(watcher, mean, thing):
    """Whether any object is a dict of fast heights for a mean."""
    found = asked_leaps(watcher, mean)
    return are_by_starts(found, thing) and are_kept(fast_steps(found, mean), mean, thing, 1)


def are_slow_heights(watcher, mean, thing):
    """Whether any object is a dict of slow heights for a mean."""
    found = asked_leaps(watcher, mean)
    if are_endless(found):
        return False
    return are_by_starts(found, thing) and are_kept(slow_steps(found, mean), mean, thing, -1)


def are_by_starts(found, thing):
    """Whether any object is a dict from just the starts of leaps to fractions."""
    if not isinstance(thing, dict) or not all([is_integer(key) for key in thing]):
        return False
    return sorted(thing) == starts_of(found) and all([is_fraction(thing[key]) for key in thing])


def are_kept(steps, mean, heights, sign):
    """Whether heights, or their contraries, keep steps told in parts of a mean."""
    bottom = lowest(mean[0], mean[1])[1]
    for start, end, step in steps:
        one, other = heights[end], heights[start]
        # one - other at most step / bottom, all three over their common bottom.
        if sign * (one[0] * other[1] - other[0] * one[1]) * bottom > step * one[1] * other[1]:
            return False
    return True
