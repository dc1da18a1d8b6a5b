"""What logs ask of the ways of a watcher's arrows, and the search for the ways that do it.

The PARTS of a log are a pair (heard, now): heard is a list of pairs of a signal and the stretch in which its time has
to lie, by its told time and the moments beside it, now the stretch of the times at which the log can end.
"""

from rowsintime.bounds import UPTO_ZERO
from rowsintime.errors import BadEntry, Looped
from rowsintime.kinds import is_count, is_list, is_name
from rowsintime.machines import quietly_reached, steps_of
from rowsintime.stretches import ANY_NUMBER, met, stretch_of
from rowsintime.timing import bounds_along
from rowsintime.trails import gone_on, stood_on, trail_at


def check_no_loop(watcher):
    """Whether unseen arrows lead nowhere round."""
    arrows = watcher.arrows()
    unseen = [number for number, arrow in enumerate(arrows) if arrow[1] is None]
    # What is left when arrows to places without one out are taken away again and again leads round.
    left = unseen
    while left:
        sources = {arrows[number][0]: True for number in left}
        kept = [number for number in left if arrows[number][4] in sources]
        if len(kept) == len(left):
            raise Looped(loop_in(arrows, left))
        left = kept


def loop_in(arrows, numbers):
    """A loop of some arrows, of which one leaves each place to which one leads."""
    way = [numbers[0]]
    places = [arrows[numbers[0]][0]]
    while arrows[way[-1]][4] not in places:
        place = arrows[way[-1]][4]
        places.append(place)
        way.append([number for number in numbers if arrows[number][0] == place][0])
    return tuple(way[places.index(arrows[way[-1]][4]):])


def check_entries(entries):
    """Whether entries are a list of such pairs, and their told times do not fall."""
    if not is_list(entries):
        raise BadEntry(0)
    last = 0
    for at, thing in enumerate(entries):
        if not is_entry(thing) or is_ahead(thing[1], last):
            raise BadEntry(at)
        last = last if thing[1] is None else thing[1]


def check_entry_forms(entries):
    """Whether entries are a list of such pairs, whatever their times."""
    if not is_list(entries):
        raise BadEntry(0)
    for at, thing in enumerate(entries):
        if not is_entry(thing):
            raise BadEntry(at)


def is_entry(thing):
    if not is_list(thing) or len(thing) != 2:
        return False
    signal, time = thing
    if signal is None:
        return is_count(time)
    return is_name(signal) and (time is None or is_count(time))


def is_ahead(time, last):
    """Whether a time is told, and less than one ahead of it."""
    return time is not None and time < last


def do_fall(entries):
    """Whether told times of entries fall."""
    told = [time for _, time in entries if time is not None]
    return told != sorted(told)


def parts_of_log(entries):
    """What is heard, and when the log can end."""
    heard = []
    now = ANY_NUMBER
    # From which edge on the next signal can be heard: that of the last moment behind the last signal.
    low = 0
    for signal, time in entries:
        if signal is not None:
            stretch = (low, None) if time is None else (2 * time, 2 * time + 1)
            heard.append((signal, stretch))
            low = 0
            now = ANY_NUMBER
            continue
        if heard:
            heard[-1] = (heard[-1][0], met(heard[-1][1], stretch_of("upto", time)))
        low = 2 * time
        now = (2 * time, 2 * time + 1)
    return (heard, now)


def useful_places(plan, heard):
    """For each number of signals the places from which those behind them can be heard, as dicts of True."""
    quiet = steps_of([(to, None, place) for place, signal, _, _, to in plan.arrows if signal is None])
    useful = [{place: True for place in plan.limits}]
    for signal, _ in heard[::-1]:
        behind = useful[-1]
        ahead = [place for place, name, _, _, to in plan.arrows if name == signal and to in behind]
        useful.append({place: True for place in quietly_reached(quiet, ahead)})
    return useful[::-1]


def trails_of(plan, parts, is_one_enough):
    """The trails, up to now, of all paths of a log in order; of one alone if that is enough."""
    heard, now = parts
    useful = useful_places(plan, heard)
    found = []
    level = [(0, trail_at(plan, plan.begin))] if plan.begin in useful[0] else []
    while level:
        for many, trail in level:
            ended = stood_on(plan, trail, now) if many == len(heard) else None
            if ended is not None:
                found.append(ended)
        if found and is_one_enough:
            return found
        level = [step for many, trail in level for step in steps_on(plan, heard, useful, many, trail)]
    return found


def steps_on(plan, heard, useful, many, trail):
    """The trails with an arrow more, each with the number of signals that are heard by then."""
    found = []
    for number in plan.leaving[trail.place]:
        _, signal, _, _, to = plan.arrows[number]
        behind, stretch = (many, ANY_NUMBER)
        if signal is not None:
            if many == len(heard) or heard[many][0] != signal:
                continue
            behind, stretch = (many + 1, heard[many][1])
        longer = gone_on(plan, trail, number, stretch) if to in useful[behind] else None
        if longer is not None:
            found.append((behind, longer))
    return found


def are_paths(plan, entries):
    """Whether a log of some entries has a run."""
    return bool(trails_of(plan, parts_of_log(entries), True))


def is_candidate(plan, heard, thing):
    """Whether arrows, by their numbers, lead from the first place on, to none that is never held, by what is heard."""
    place = plan.begin
    signals = []
    for number in thing:
        source, signal, _, _, to = plan.arrows[number]
        if source != place or is_never_held(plan, to):
            return False
        place = to
        signals.append(signal)
    return [signal for signal in signals if signal is not None] == [signal for signal, _ in heard]


def is_never_held(plan, place):
    return any([code < UPTO_ZERO for _, _, code in plan.limits[place]])


def heard_rows(plan, way):
    """The rows, behind that of the begin, of the times of the arrows of a way that have signals."""
    return [at + 1 for at, number in enumerate(way) if plan.arrows[number][1] is not None]


def candidate_bounds(plan, parts, way):
    """All bounds (i, j, code) of the times of a candidate's arrows, behind the begin, and of now, the last one."""
    heard, now = parts
    bounds, lasts = bounds_along(plan, way)
    last = len(way) + 1
    bounds.append((last - 1, last, UPTO_ZERO))
    bounds.extend([(last, lasts[i], code) for i, _, code in plan.limits[place_behind(plan, way)]])
    told = [(row, stretch) for row, (_, stretch) in zip(heard_rows(plan, way), heard)] + [(last, now)]
    for row, (low, high) in told:
        if low > 0:
            bounds.append((0, row, 1 - low))
        if high is not None:
            bounds.append((row, 0, high))
    # A clock's limit where it is begun holds: of no candidate is it below 0.
    return [bound for bound in bounds if bound[0] != bound[1]]


def place_behind(plan, way):
    return plan.arrows[way[-1]][4] if way else plan.begin
