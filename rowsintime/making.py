"""Watchers made of others: they tell what these do not tell, what both tell, one at least, or one alone."""

from rowsintime.boxes import cuts_of
from rowsintime.errors import BadSignals, Lacks
from rowsintime.kinds import bad_name_at, letters
from rowsintime.runs import check_sure
from rowsintime.watchers import Watcher
from rowsintime.wholes import BOTH, EITHER, LESS, Pair, Whole, telling_whole


def not_told(watcher, signals):
    """A watcher that tells just the timed rows of some signals that another one does not tell."""
    check_sure(watcher)
    check_all_signals(signals, watcher.signals())
    everything = Whole(0, True, {True: True}, {})
    return watcher_made(sorted(signals), everything, telling_whole(watcher, sorted(signals)), LESS)


def check_all_signals(signals, needed):
    """Whether signals are unlike names, all that are needed among them."""
    bad = bad_name_at(signals)
    if bad is not None:
        raise BadSignals(bad)
    for signal in needed:
        if signal not in signals:
            raise Lacks(signal)


def both_tell(one, other):
    """A watcher that tells just what both tell."""
    return made_of_two(one, other, BOTH)


def either_tell(one, other):
    """A watcher that tells just what one of two at least tells."""
    return made_of_two(one, other, EITHER)


def less_tell(one, other):
    """A watcher that tells just what the one tells and the other does not."""
    return made_of_two(one, other, LESS)


def made_of_two(one, other, table):
    check_sure(one)
    check_sure(other)
    signals = signals_of_both(one, other)
    return watcher_made(signals, telling_whole(one, signals), telling_whole(other, signals), table)


def signals_of_both(one, other):
    heard = {signal: True for signal in one.signals() + other.signals()}
    return sorted(heard)


def watcher_made(signals, one, other, table):
    pair = Pair(signals, one, other, table)
    clocks = ["clock" + letters(at) for at in range(pair.width)]
    limits = {letters(at): {} for at in range(len(pair.spots))}
    arrows = []
    for at, signal, box, begun, to in pair.arrows:
        arrows.append((letters(at), signal, cuts_of(clocks, box), [clocks[clock - 1] for clock in begun], letters(to)))
    return Watcher(clocks, limits, arrows, [letters(at) for at in pair.ends()])
