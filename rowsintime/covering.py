"""Grids taken from one another until nothing, or something, is left."""

from rowsintime.bounds import UPTO_ZERO, code_sum
from rowsintime.pieces import pieces_beside


def left_of(grid, others):
    """A closed grid of some points of a closed one that no other grid has, None if there are none."""
    pieces = [grid]
    for other in others:
        pieces = [part for piece in pieces for part in parts_beside(piece, other)]
        if not pieces:
            return None
    return pieces[0]


def parts_beside(piece, other):
    # Cut along the bounds of a grid that it does not meet a piece would only get more and more parts.
    if is_apart(piece, other):
        return [piece]
    return pieces_beside(piece, other)


def is_apart(one, other):
    """Whether a bound of one grid and one of the other keep all their points apart."""
    size = len(one)
    for i in range(size):
        for j in range(size):
            around = code_sum(one[i][j], other[j][i])
            if around is not None and around < UPTO_ZERO:
                return True
    return False
