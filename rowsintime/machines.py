"""Machines of sets of rows: made out of lanes, least, put together, and counted through.

A MACHINE is a triple (many, moves, ends): spots are 0 to many - 1, 0 is the first one; moves is a dict from
(spot, signal) to the one spot to which the signal leads from there; ends is the ascending list of the ends.
No function here changes what it is passed: the signs of sets call them.
"""


def least_machine(signals, lanes, firsts, ends):
    """The least machine of the rows of lanes between any spots, in which None is a lane without a signal."""
    return least_of(signals, one_by_one(signals, lanes, firsts, ends))


def steps_of(lanes):
    """The spots to which lanes lead, by spot and signal."""
    steps = {}
    for spot, signal, to in lanes:
        steps.setdefault((spot, signal), []).append(to)
    return steps


def quietly_reached(steps, spots):
    """The lot of spots that are come to from some spots without a signal: an ascending tuple."""
    found = list(spots)
    seen = {spot: True for spot in spots}
    at = 0
    while at < len(found):
        for to in steps.get((found[at], None), []):
            if to not in seen:
                seen[to] = True
                found.append(to)
        at += 1
    return tuple(sorted([spot for spot in seen]))


def one_by_one(signals, lanes, firsts, ends):
    """A machine whose spots are the lots of spots to which rows lead."""
    steps = steps_of(lanes)
    goals = {spot: True for spot in ends}
    lots = [quietly_reached(steps, firsts)]
    numbers = {lots[0]: 0}
    moves = {}
    at = 0
    while at < len(lots):
        for signal in signals:
            heard = [to for spot in lots[at] for to in steps.get((spot, signal), [])]
            lot = quietly_reached(steps, heard)
            if lot not in numbers:
                numbers[lot] = len(lots)
                lots.append(lot)
            moves[at, signal] = numbers[lot]
        at += 1
    return (len(lots), moves, [k for k in range(len(lots)) if has_any(goals, lots[k])])


def has_any(goals, spots):
    return any([spot in goals for spot in spots])


def least_of(signals, machine):
    """The least machine of the same rows, its spots numbered by the first rows that lead there."""
    many, moves, ends = machine
    useful = spots_before(machine)
    kept = {key: moves[key] for key in moves if moves[key] in useful}
    marks = marks_of(signals, (many, kept, ends))
    numbers = {marks[0]: 0}
    order = [0]
    merged = {}
    at = 0
    while at < len(order):
        for signal in signals:
            to = kept.get((order[at], signal))
            if to is None:
                continue
            if marks[to] not in numbers:
                numbers[marks[to]] = len(order)
                order.append(to)
            merged[at, signal] = numbers[marks[to]]
        at += 1
    return (len(order), merged, [k for k in range(len(order)) if order[k] in ends])


def spots_before(machine):
    """The spots from which some end is come to, as a dict of True."""
    _, moves, ends = machine
    back = steps_of([(moves[spot, signal], None, spot) for spot, signal in moves])
    return {spot: True for spot in quietly_reached(back, ends)}


def marks_of(signals, machine):
    """Numbers for the spots of a machine, equal just for those from which the same rows lead to ends."""
    many, moves, ends = machine
    marks = [1 if spot in ends else 0 for spot in range(many)]
    for _ in range(many):
        finer = finer_marks(signals, moves, marks)
        if finer == marks:
            break
        marks = finer
    return marks


def finer_marks(signals, moves, marks):
    """Marks that also tell apart what leads by one signal to unlike marks."""
    numbers = {}
    finer = []
    for spot, mark in enumerate(marks):
        behind = [moves.get((spot, signal)) for signal in signals]
        shape = (mark, tuple([None if to is None else marks[to] for to in behind]))
        if shape not in numbers:
            numbers[shape] = len(numbers)
        finer.append(numbers[shape])
    return finer


def lanes_of(machine):
    """The ascending list of the lanes of a machine."""
    moves = machine[1]
    return sorted([(spot, signal, moves[spot, signal]) for spot, signal in moves])


def paired_lanes(signals, one, other, kept):
    """Lanes and ends of the rows about which two machines tell one of the kept pairs of truths.

    The spots are numbers of pairs of spots, None standing for a machine that the row has left.
    """
    pairs = [(0, 0)]
    numbers = {(0, 0): 0}
    lanes = []
    at = 0
    while at < len(pairs):
        for signal in signals:
            pair = (one[1].get((pairs[at][0], signal)), other[1].get((pairs[at][1], signal)))
            if pair not in numbers:
                numbers[pair] = len(pairs)
                pairs.append(pair)
            lanes.append((at, signal, numbers[pair]))
        at += 1
    ends = [k for k, spots in enumerate(pairs) if (spots[0] in one[2], spots[1] in other[2]) in kept]
    return (lanes, ends)


def spot_behind(machine, row):
    """The spot to which a list of any objects leads, None if it leads nowhere."""
    moves = machine[1]
    spot = 0
    for signal in row:
        # What is no string may not be fit for a key.
        if not isinstance(signal, str):
            return None
        spot = moves.get((spot, signal))
    return spot


def first_row(signals, machine):
    """The first row of a least machine, None if it has no row."""
    many, moves, ends = machine
    if not ends:
        return None
    rows = {0: ()}
    for spot in range(many):
        for signal in signals:
            to = moves.get((spot, signal))
            if to is not None and to not in rows:
                rows[to] = rows[spot] + (signal,)
    # Spots are numbered by their first rows, so no other end is come to by an earlier one.
    return rows[ends[0]]


def longer_ways(machine, ways):
    """In how many ways each spot is come to by one signal more."""
    many, moves, _ = machine
    longer = [0 for spot in range(many)]
    for key in moves:
        longer[moves[key]] = longer[moves[key]] + ways[key[0]]
    return longer


def first_ways(machine):
    return [1 if spot == 0 else 0 for spot in range(machine[0])]


def ended_ways(machine, ways):
    return sum([ways[spot] for spot in machine[2]])


def count_of(machine, length):
    """How many rows of a machine have just so many signals."""
    ways = first_ways(machine)
    for _ in range(length):
        if not any(ways):
            return 0
        ways = longer_ways(machine, ways)
    return ended_ways(machine, ways)


def count_of_all(machine):
    """How many rows a least machine has, None for endlessly many."""
    ways = first_ways(machine)
    total = 0
    for _ in range(machine[0]):
        total = total + ended_ways(machine, ways)
        ways = longer_ways(machine, ways)
    # Rows with as many signals as there are spots come to a spot twice, and go on from there to an end.
    if any(ways):
        return None
    return total


def rows_up_to(signals, machine, length):
    """All rows with at most so many signals, in order."""
    _, moves, ends = machine
    found = []
    rows = [((), 0)]
    for _ in range(length + 1):
        found.extend([row for row, spot in rows if spot in ends])
        ahead = [(row, spot, signal) for row, spot in rows for signal in signals if (spot, signal) in moves]
        rows = [(row + (signal,), moves[spot, signal]) for row, spot, signal in ahead]
        if not rows:
            break
    return found
