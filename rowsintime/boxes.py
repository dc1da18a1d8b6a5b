"""Boxes: for each clock, from the first on, a stretch of its worths, told by edges."""

from rowsintime.bounds import UPTO_ZERO
from rowsintime.ratios import lowest
from rowsintime.stretches import ANY_NUMBER, lower_told, met, upper_told


def whole_box(many):
    """The box of all worths of so many clocks."""
    return [ANY_NUMBER for _ in range(many)]


def box_of(many, conditions):
    """The box of all worths that keep conditions, None if there are none."""
    box = whole_box(many)
    for i, j, code in conditions:
        if i == 0 and j == 0:
            # The begin is worth 0: this holds for all worths or for none.
            if code < UPTO_ZERO:
                return None
            continue
        at = max(i, j) - 1
        stretch = met(box[at], (0, code) if i > 0 else (1 - code, None))
        if stretch is None:
            return None
        box[at] = stretch
    return box


def met_box(one, other):
    """The worths that two boxes have in common, None if there are none."""
    box = [met(one[at], other[at]) for at in range(len(one))]
    return None if None in box else box


def boxes_beside(box, other):
    """Boxes, apart from one another, of the worths of one that another has not."""
    common = met_box(box, other)
    if common is None:
        return [box]
    pieces = []
    for at, stretch in enumerate(common):
        # What is apart by this clock is within the other one by all clocks ahead of it, so no two pieces meet.
        ahead, behind = common[:at], box[at + 1:]
        low, high = box[at]
        if low < stretch[0]:
            pieces.append(ahead + [(low, stretch[0])] + behind)
        if high != stretch[1]:
            pieces.append(ahead + [(stretch[1], high)] + behind)
    return pieces


def boxes_outside(many, others):
    """Boxes, apart from one another, of the worths that none of some boxes has."""
    pieces = [whole_box(many)]
    for other in others:
        pieces = [part for piece in pieces for part in boxes_beside(piece, other)]
    return pieces


def inner_worths(clocks, box):
    """Worths in a box by clocks: 0, or 1/2 more, behind the lower bound of each."""
    return {clock: lowest(box[at][0], 2) for at, clock in enumerate(clocks)}


def cuts_of(clocks, box):
    """The cuts that just the worths of a box keep."""
    cuts = []
    for at, clock in enumerate(clocks):
        low, high = box[at]
        if low > 0:
            word, number = lower_told(low)
            cuts.append((clock, word, number))
        if high is not None:
            word, number = upper_told(high)
            cuts.append((clock, word, number))
    return cuts


def conditions_of(box):
    """The conditions that just the worths of a box keep."""
    conditions = []
    for at, stretch in enumerate(box):
        low, high = stretch
        if low > 0:
            conditions.append((0, at + 1, 1 - low))
        if high is not None:
            conditions.append((at + 1, 0, high))
    return conditions
