"""Runs of watchers, timed rows, and watchers that are sure."""

from rowsintime.boxes import box_of, inner_worths, met_box
from rowsintime.errors import BadRow, BadRun, Unseen, Unsure
from rowsintime.kinds import is_list, is_name, is_time
from rowsintime.plans import conditions_ahead, plan_of
from rowsintime.ratios import is_less, lowest
from rowsintime.steps import can_begin, can_go, first_stand, gone, stand_behind, worths_at


def is_run(watcher, thing):
    return stand_behind(plan_of(watcher), thing) is not None


def run_stand(watcher, run):
    """The stand right behind a run."""
    stand = stand_behind(plan_of(watcher), run)
    if stand is None:
        raise BadRun(run)
    return stand


def ended(watcher, run):
    """The place at which a run ends."""
    return run_stand(watcher, run)[0]


def worths(watcher, run):
    """All clocks' worths right behind the last arrow of a run."""
    return worths_at(watcher.clocks(), run_stand(watcher, run))


def heard(watcher, run):
    """The signals of a run with their times."""
    run_stand(watcher, run)
    arrows = watcher.arrows()
    return [(arrows[number][1], lowest(time[0], time[1])) for number, time in run if arrows[number][1] is not None]


def check_seen(watcher):
    for at, arrow in enumerate(watcher.arrows()):
        if arrow[1] is None:
            raise Unseen(at)


def check_timed_row(row):
    if not is_list(row):
        raise BadRow(0)
    ahead = (0, 1)
    for at, thing in enumerate(row):
        if not is_heard(thing) or is_less(thing[1], ahead):
            raise BadRow(at)
        ahead = thing[1]


def is_heard(thing):
    return is_list(thing) and len(thing) == 2 and is_name(thing[0]) and is_time(thing[1])


def runs(watcher, row):
    """All tuples of numbers of arrows that are runs with the signals and the times of a row, in order."""
    check_seen(watcher)
    check_timed_row(row)
    layers = layers_of(plan_of(watcher), row)
    # Ways that lead to no stand behind the whole row are left out ahead: there may be very many.
    useful = useful_stands(layers)
    found = [((), stand) for stand in useful[0]]
    for at in range(len(row)):
        found = [(way + (number,), to) for way, stand in found for number, to in layers[at][stand]
                 if to in useful[at + 1]]
    return [way for way, _ in found]


def layers_of(plan, row):
    """For each signal of a row a dict from the stands ahead of it to pairs of arrows and the stands behind them.

    The last one is from the stands behind the whole row.
    """
    layer = {first_stand(plan): True} if can_begin(plan) else {}
    layers = []
    for signal, time in row:
        steps = {stand: steps_from(plan, stand, signal, time) for stand in layer}
        layer = {to: True for stand in steps for _, to in steps[stand]}
        layers.append(steps)
    layers.append({stand: [] for stand in layer})
    return layers


def steps_from(plan, stand, signal, time):
    found = []
    for number in plan.leaving[stand[0]]:
        if plan.arrows[number][1] == signal and can_go(plan, stand, number, time):
            found.append((number, gone(plan, stand, number, time)))
    return found


def useful_stands(layers):
    """For each layer the stands from which one behind the whole row is come to."""
    useful = [{stand: True for stand in layers[-1]}]
    for steps in layers[-2::-1]:
        behind = useful[-1]
        useful.append({stand: True for stand in steps if any([to in behind for _, to in steps[stand]])})
    return useful[::-1]


def takes(watcher, row):
    """Whether some run with a row ends at an end."""
    check_seen(watcher)
    check_timed_row(row)
    return is_taken(watcher, row)


def is_taken(watcher, row):
    ends = watcher.ends()
    return any([stand[0] in ends for stand in layers_of(plan_of(watcher), row)[-1]])


def unsure(watcher):
    """The first two arrows that one signal can let go both, with worths of the clocks for it; None if it is sure."""
    check_seen(watcher)
    clocks = watcher.clocks()
    arrows = watcher.arrows()
    boxes = [box_of(len(clocks), conditions) for conditions in conditions_ahead(watcher)]
    groups = {}
    for number, arrow in enumerate(arrows):
        if boxes[number] is not None:
            groups.setdefault((arrow[0], arrow[1]), []).append(number)
    for i, arrow in enumerate(arrows):
        for j in groups.get((arrow[0], arrow[1]), []):
            box = met_box(boxes[i], boxes[j]) if j > i and boxes[i] is not None else None
            if box is not None:
                return ((i, j), inner_worths(clocks, box))
    return None


def check_sure(watcher):
    found = unsure(watcher)
    if found is not None:
        raise Unsure(found[0][0], found[0][1])
