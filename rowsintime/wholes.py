"""Sure watchers made whole, alone and in pairs: each signal leads on from each place, whatever the clocks are worth.

A MOVE is a triple (box, clocks, to): at the worths of its box a signal leads on to a place, and begins these clocks.
The boxes of one signal at one place are apart from one another and leave no worths.
"""

from rowsintime.boxes import box_of, boxes_outside, conditions_of, whole_box
from rowsintime.machines import quietly_reached, steps_of
from rowsintime.plans import Plan, plan_of
from rowsintime.steps import can_begin

# Whether a pair tells what one watcher tells or not, and the other one tells or not.
BOTH = ((False, False), (False, True))
EITHER = ((False, True), (True, True))
LESS = ((False, False), (True, False))
UNLIKE = ((False, True), (True, False))


class Whole:
    """A whole watcher: how many clocks it has, where it begins, what its ends are, and its moves by (place, signal).

    What is no place, a truth or None, is never left.
    """

    def __init__(self, width, begin, goals, moves):
        self.width = width
        self.begin = begin
        self.goals = goals
        self.moves = moves

    def moves_from(self, place, signal):
        if (place, signal) in self.moves:
            return self.moves[place, signal]
        return [(whole_box(self.width), [], place)]


def going_moves(plan):
    """The moves of the arrows that can go, by (place, signal)."""
    moves = {}
    for place, signal, conditions, clocks, to in plan.arrows:
        box = box_of(plan.size - 1, conditions)
        if box is not None:
            moves.setdefault((place, signal), []).append((box, clocks, to))
    return moves


def completed(many, moves, refused):
    """The moves, and those by which all that they leave is refused."""
    boxes = boxes_outside(many, [box for box, _, _ in moves])
    return moves + [(box, [], refused) for box in boxes]


def standing_whole(watcher, signals):
    """A watcher made whole so that just what it refuses leads to None."""
    plan = plan_of(watcher)
    many = plan.size - 1
    going = going_moves(plan)
    keys = [(place, signal) for place in plan.limits for signal in signals]
    moves = {key: completed(many, going.get(key, []), None) for key in keys}
    ends = {place: True for place in watcher.ends()}
    return Whole(many, plan.begin if can_begin(plan) else None, ends, moves)


def telling_whole(watcher, signals):
    """A watcher made whole: False is where no row is told any more, True where all rows of the signals are."""
    plan = plan_of(watcher)
    many = plan.size - 1
    going = going_moves(plan)
    alive = places_before(going, watcher.ends())
    keys = [(place, signal) for place in alive for signal in signals]
    moves = {}
    for key in keys:
        moves[key] = completed(many, [move for move in going.get(key, []) if move[2] in alive], False)
    told = all_told(moves, signals, {place: True for place in watcher.ends()})
    moves = {key: [(box, clocks, told.get(to, to)) for box, clocks, to in moves[key]] for key in keys}
    first = plan.begin if can_begin(plan) and plan.begin in alive else False
    ends = {place: True for place in watcher.ends() + [True]}
    return Whole(many, told.get(first, first), ends, moves)


def places_before(moves, ends):
    """The places from which moves lead to ends, these among them."""
    back = steps_of([(to, None, place) for place, signal in moves for _, _, to in moves[place, signal]])
    return {place: True for place in quietly_reached(back, ends)}


def all_told(moves, signals, ends):
    """The ends from which all signals lead to such ends alone."""
    told = ends
    while True:
        kept = {place: True for place in told if not is_left(moves, signals, place, told)}
        if len(kept) == len(told):
            return kept
        told = kept


def is_left(moves, signals, place, told):
    """Whether some signal leads from a place to what is not told."""
    return any([to not in told for signal in signals for _, _, to in moves[place, signal]])


class Pair:
    """Two whole watchers that hear the same: its spots are pairs of their places, or a truth where it is settled
    what is told.

    Its arrows are tuples (number of a spot, signal, box, clocks, number of a spot); the clocks of the other watcher
    are numbered behind those of the one.
    """

    def __init__(self, signals, one, other, table):
        self.one = one
        self.other = other
        self.table = table
        self.width = one.width + other.width
        self.spots = [self.spot(one.begin, other.begin)]
        self.arrows = []
        numbers = {self.spots[0]: 0}
        at = 0
        while at < len(self.spots):
            spot = self.spots[at]
            moves = [(signal, move) for signal in signals for move in self.moves_from(spot, signal)]
            for signal, move in moves:
                box, clocks, to = move
                if to not in numbers:
                    numbers[to] = len(self.spots)
                    self.spots.append(to)
                self.arrows.append((at, signal, box, clocks, numbers[to]))
            at += 1

    def spot(self, place, other):
        """A pair of places, or the truth if it is settled by them."""
        if self.table is None:
            return (place, other)
        told = [self.table[one][two] for one in truths_of(place) for two in truths_of(other)]
        return (place, other) if False in told and True in told else told[0]

    def moves_from(self, spot, signal):
        if isinstance(spot, bool):
            return [(whole_box(self.width), [], spot)]
        moves = []
        for box, clocks, to in self.one.moves_from(spot[0], signal):
            settled = self.spot(to, "")
            if isinstance(settled, bool):
                moves.append((box + whole_box(self.other.width), clocks, settled))
                continue
            for second, begun, behind in self.other.moves_from(spot[1], signal):
                moves.append((box + second, clocks + [self.one.width + at for at in begun], self.spot(to, behind)))
        return moves

    def ends(self):
        """The numbers of the spots at which a row is told."""
        return [at for at, spot in enumerate(self.spots) if self.is_told(spot)]

    def is_told(self, spot):
        if isinstance(spot, bool):
            return spot
        return self.table[spot[0] in self.one.goals][spot[1] in self.other.goals]

    def plan(self):
        arrows = [(at, signal, conditions_of(box), clocks, to) for at, signal, box, clocks, to in self.arrows]
        return Plan(self.width + 1, 0, {at: [] for at in range(len(self.spots))}, arrows)


def truths_of(place):
    """What can be told from here on, of all rows alike: both, but where it is settled."""
    return [place] if isinstance(place, bool) else [False, True]
