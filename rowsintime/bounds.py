"""Upper bounds, and the codes by which they are reckoned with.

The code of ("below", n) is 2 * n, that of ("upto", n) is 2 * n + 1, that of None is None.
So the tighter one of two bounds has the lesser code, and 0 keeps a bound if its code is 1 or more.
"""

from rowsintime.kinds import is_integer, is_list

UPTO_ZERO = 1


def is_upper(thing):
    if thing is None:
        return True
    if not is_list(thing) or len(thing) != 2:
        return False
    return thing[0] in ("upto", "below") and is_integer(thing[1])


def code_of(bound):
    if bound is None:
        return None
    if bound[0] == "upto":
        return 2 * bound[1] + 1
    return 2 * bound[1]


def upper_of(code):
    """The upper bound with this code."""
    if code is None:
        return None
    if code % 2 == 1:
        return ("upto", code // 2)
    return ("below", code // 2)


def lower_of(code):
    """The lower bound of what is the contrary of a number with the upper bound of this code."""
    if code is None:
        return None
    if code % 2 == 1:
        return ("from", -(code // 2))
    return ("above", -(code // 2))


def tighter_code(one, other):
    if one is None:
        return other
    if other is None or one < other:
        return one
    return other


def looser_code(one, other):
    if one is None or other is None:
        return None
    return max(one, other)


def code_sum(one, other):
    """The code of the sum of two bounds."""
    if one is None or other is None:
        return None
    # The sum is told with "upto" if both are: the units that tell so are one too many else.
    if one % 2 == 1 or other % 2 == 1:
        return one + other - 1
    return one + other


def breaking_code(code):
    """The code of the bound that the contraries of just the numbers keep that break the bound of this code."""
    return 1 - code


def is_kept(code, worth):
    """Whether a fraction keeps the bound of this code, not None."""
    number = code // 2
    if code % 2 == 1:
        return worth[0] <= number * worth[1]
    return worth[0] < number * worth[1]


def loosened(code, upper, lower):
    """The code of a bound of two without what lies beyond the numbers of the first and the second, None for no such."""
    if code is None or (upper is not None and code > 2 * upper + 1):
        return None
    if lower is not None and code <= -2 * lower:
        return -2 * lower
    return code
