"""What the tests share: objects of all kinds, and tables and sets reckoned through without the program.

A WORTH here is an integer of parts of a unit, PARTS of them to one: so no sum is rounded.
"""

from fractions import Fraction

from rowsintime.rows import Rows
from rowsintime.tables import Table

PARTS = 12


def strange_objects():
    """Objects of all kinds that callers may pass where any object may be passed, made anew."""
    return [
        0, 1, -1, 3, 10 ** 30, True, False, None, "", "a", "b", "A", "abcdefghi", "a1", "upto",
        [], (), ["a"], ("a",), [None], [[]], ((),), [1, 2], (0, 1), (True, 1), (1, 0), ("upto", 1), ["below", 2],
        ("a", "b"), ("upto", True), ("upto", "1"), ("from", 1), ("upto", 1, 2), {}, {"a": 1}, {"a": (0, 1)},
        {None: None}, {("a", ""): ("upto", 0)}, [{}], ({},), [Table([], {})],
        Table([], {}), Table(["a"], {}), Table(["a"], {("a", ""): ("upto", -1), ("", "a"): ("upto", 0)}),
        Rows([], [], [], []), Rows(["a"], [(0, "a", 0)], [0], [0]), [Rows(["a"], [], [], [])],
    ]


def error_of(work):
    """The error that comes out of a call, None if none does."""
    try:
        work()
    except Exception as error:
        return error
    return None


def random_table(random, names, least=-3, most=3, share=0.5):
    spots = [""] + list(names)
    bounds = {}
    for one in spots:
        for other in spots:
            if one != other and random.random() < share:
                bounds[one, other] = (random.choice(["upto", "below"]), random.randint(least, most))
    pairs = list(bounds)
    random.shuffle(pairs)
    return Table(names, {pair: bounds[pair] for pair in pairs})


def keeps(bound, worth):
    """Whether a worth, in parts, keeps an upper bound."""
    if bound is None:
        return True
    word, number = bound
    return worth <= number * PARTS if word == "upto" else worth < number * PARTS


def has(table, worths):
    """Whether worths, in parts, are a point of a table."""
    for (one, other), bound in table.bounds().items():
        if not keeps(bound, worths.get(one, 0) - worths.get(other, 0)):
            return False
    return True


def points_between(names, least, most, step):
    """All worths of some names, in parts, from a least to a most number of units, by a step of parts."""
    found = [{}]
    for name in names:
        found = [dict(worths, **{name: at}) for worths in found for at in range(least * PARTS, most * PARTS + 1, step)]
    return found


def fractions_of(worths):
    """Worths in parts as a point of fractions, not in lowest terms."""
    return {name: (worth, PARTS) for name, worth in worths.items()}


def parts_of(point):
    """A point of fractions as exact numbers of parts."""
    return {name: Fraction(top, bottom) * PARTS for name, (top, bottom) in point.items()}


def looseness(bound):
    """Something by which bounds compare: the tighter, the less."""
    if bound is None:
        return (1, 0, 0)
    return (0, bound[1], 0 if bound[0] == "below" else 1)


def tighter(one, other):
    return min(one, other, key=looseness)


def looser(one, other):
    return max(one, other, key=looseness)


def plus(one, other):
    if one is None or other is None:
        return None
    word = "upto" if one[0] == other[0] == "upto" else "below"
    return (word, one[1] + other[1])


def all_ways(names, one, other):
    """All ways from one to other that come to nothing twice."""
    ways = [[one]]
    found = []
    while ways:
        way = ways.pop()
        for spot in [""] + list(names):
            if spot == other:
                found.append(way + [spot])
            elif spot not in way:
                ways.append(way + [spot])
    return found


def sum_along(table, way):
    total = ("upto", 0)
    for one, other in zip(way, way[1:]):
        total = plus(total, table.bound(one, other))
    return total


def tightest(table, one, other):
    """The tightest sum of bounds along all ways from one to other."""
    best = None
    for way in all_ways(table.names(), one, other):
        best = tighter(best, sum_along(table, way))
    return best


def is_barred(table):
    """Whether some ring has a sum that 0 does not keep, all of them tried."""
    for spot in [""] + table.names():
        for way in all_ways(table.names(), spot, spot):
            if len(way) > 2 and not keeps(sum_along(table, way), 0):
                return True
    return False


def is_closed(table):
    """Whether each bound of a table is the tightest sum along all ways."""
    spots = [""] + table.names()
    return not is_barred(table) and all(
        table.bound(one, other) == tightest(table, one, other) for one in spots for other in spots if one != other)


def all_rows(signals, most):
    """All rows of signals with at most so many of them, in the order of choices."""
    level = [()]
    found = []
    for _ in range(most + 1):
        found.extend(level)
        level = [row + (signal,) for row in level for signal in sorted(signals)]
    return found


def quiet(lanes, spots):
    found = set(spots)
    while True:
        more = {to for spot, signal, to in lanes if signal is None and spot in found} - found
        if not more:
            return found
        found |= more


def spots_of_row(lanes, firsts, row):
    """All spots to which a row leads along lanes."""
    here = quiet(lanes, firsts)
    for heard in row:
        here = quiet(lanes, {to for spot, signal, to in lanes if signal == heard and spot in here})
    return here


def leads(told, row):
    """Whether a row is one of what Rows is told by: signals, lanes, firsts, ends."""
    _, lanes, firsts, ends = told
    return bool(spots_of_row(lanes, firsts, row) & set(ends))


def random_told(random, signals, spots=4, lanes=7, quiet_share=0.2):
    """Signals, lanes, firsts and ends made up."""
    made = []
    for _ in range(random.randint(0, lanes)):
        signal = None if not signals or random.random() < quiet_share else random.choice(signals)
        made.append((random.randrange(spots), signal, random.randrange(spots)))
    firsts = [random.randrange(spots) for _ in range(random.randint(0, 2))]
    ends = [random.randrange(spots) for _ in range(random.randint(0, 3))]
    return (list(signals), made, firsts, ends)
