"""Stretches of numbers, reckoned by their edges.

An EDGE is an integer: 2 * n stands just ahead of the number n, 2 * n + 1 just behind it. A stretch is a pair of edges
(low, high), of which high is None if nothing bounds it from above. So the edge of an upper bound is its code, the
edge of a lower bound is 1 less the code of the contrary.
"""

# All numbers from 0 on.
ANY_NUMBER = (0, None)


def stretch_of(word, number):
    """The stretch of the numbers from 0 on that are from, above, upto or below a number from 0 on."""
    if word == "from":
        return (2 * number, None)
    if word == "above":
        return (2 * number + 1, None)
    return (0, 2 * number + 1 if word == "upto" else 2 * number)


def met(one, other):
    """The numbers that two stretches have in common, None if there are none."""
    low = max(one[0], other[0])
    high = lower_edge(one[1], other[1])
    if high is not None and high <= low:
        return None
    return (low, high)


def lower_edge(one, other):
    if one is None:
        return other
    if other is None:
        return one
    return min(one, other)


def merged(stretches):
    """The same numbers as an ascending list of stretches, as few as can be."""
    found = []
    for low, high in sorted(stretches, key=lambda stretch: stretch[0]):
        if found and (found[-1][1] is None or low <= found[-1][1]):
            # It begins at or ahead of where the last one ends: both are one.
            if found[-1][1] is not None and (high is None or high > found[-1][1]):
                found[-1] = (found[-1][0], high)
        else:
            found.append((low, high))
    return found


def lower_told(edge):
    return ("from" if edge % 2 == 0 else "above", edge // 2)


def upper_told(edge):
    if edge is None:
        return None
    return ("below" if edge % 2 == 0 else "upto", edge // 2)


def stretch_told(stretch):
    return (lower_told(stretch[0]), upper_told(stretch[1]))
