"""What the tests share: objects of all kinds, and tables and sets reckoned through without the program.

A WORTH here is an integer of parts of a unit, PARTS of them to one: so no sum is rounded.
"""

from fractions import Fraction

from rowsintime.changes import begun, beyond, cut, later
from rowsintime.closing import within
from rowsintime.going import Going
from rowsintime.houses import House
from rowsintime.logs import Log
from rowsintime.rows import Rows
from rowsintime.tables import Table
from rowsintime.toldrows import Told
from rowsintime.watchers import Watcher

PARTS = 12


def strange_objects():
    """Objects of all kinds that callers may pass where any object may be passed, made anew."""
    return [
        0, 1, -1, 3, 10 ** 30, True, False, None, "", "a", "b", "A", "abcdefghi", "a1", "upto",
        [], (), ["a"], ("a",), [None], [[]], ((),), [1, 2], (0, 1), (True, 1), (1, 0), ("upto", 1), ["below", 2],
        ("a", "b"), ("upto", True), ("upto", "1"), ("from", 1), ("upto", 1, 2), {}, {"a": 1}, {"a": (0, 1)},
        {None: None}, {("a", ""): ("upto", 0)}, [{}], ({},), [Table([], {})],
        Table([], {}), Table(["a"], {}), Table(["a"], {("a", ""): ("upto", -1), ("", "a"): ("upto", 0)}),
        Rows([], [], [], []), Rows(["a"], [(0, "a", 0)], [0], [0]), [Rows(["a"], [], [], [])],
        Watcher([], {"a": {}}, [], []), Going(Watcher(["a"], {"a": {}}, [("a", "a", [], [], "a")], ["a"])),
        Told(Watcher([], {"a": {}}, [], []), []), Log(Watcher([], {"a": {}}, [], []), []), House(),
    ]


def error_of(work):
    """The error that comes out of a call, None if none does."""
    try:
        work()
    except Exception as error:
        return error
    return None


def fault(work):
    """The name of the error that comes out of a call, and what it keeps; None if none comes out."""
    error = error_of(work)
    return None if error is None else (error.__class__.__name__,) + tuple(vars(error).values())


def random_table(random, names, least=-3, most=3, share=0.5):
    spots = [""] + list(names)
    bounds = {}
    for one in spots:
        for other in spots:
            if one != other and random.random() < share:
                bounds[one, other] = (random.choice(["upto", "below"]), random.randint(least, most))
    pairs = list(bounds)
    random.shuffle(pairs)
    return Table(names, {pair: bounds[pair] for pair in pairs})


def keeps(bound, worth):
    """Whether a worth, in parts, keeps an upper bound."""
    if bound is None:
        return True
    word, number = bound
    return worth <= number * PARTS if word == "upto" else worth < number * PARTS


def has(table, worths):
    """Whether worths, in parts, are a point of a table."""
    for (one, other), bound in table.bounds().items():
        if not keeps(bound, worths.get(one, 0) - worths.get(other, 0)):
            return False
    return True


def points_between(names, least, most, step):
    """All worths of some names, in parts, from a least to a most number of units, by a step of parts."""
    found = [{}]
    for name in names:
        found = [dict(worths, **{name: at}) for worths in found for at in range(least * PARTS, most * PARTS + 1, step)]
    return found


def fractions_of(worths):
    """Worths in parts as a point of fractions, not in lowest terms."""
    return {name: (worth, PARTS) for name, worth in worths.items()}


def parts_of(point):
    """A point of fractions as exact numbers of parts."""
    return {name: Fraction(top, bottom) * PARTS for name, (top, bottom) in point.items()}


def looseness(bound):
    """Something by which bounds compare: the tighter, the less."""
    if bound is None:
        return (1, 0, 0)
    return (0, bound[1], 0 if bound[0] == "below" else 1)


def tighter(one, other):
    return min(one, other, key=looseness)


def looser(one, other):
    return max(one, other, key=looseness)


def plus(one, other):
    if one is None or other is None:
        return None
    word = "upto" if one[0] == other[0] == "upto" else "below"
    return (word, one[1] + other[1])


def all_ways(names, one, other):
    """All ways from one to other that come to nothing twice."""
    ways = [[one]]
    found = []
    while ways:
        way = ways.pop()
        for spot in [""] + list(names):
            if spot == other:
                found.append(way + [spot])
            elif spot not in way:
                ways.append(way + [spot])
    return found


def sum_along(table, way):
    total = ("upto", 0)
    for one, other in zip(way, way[1:]):
        total = plus(total, table.bound(one, other))
    return total


def tightest(table, one, other):
    """The tightest sum of bounds along all ways from one to other."""
    best = None
    for way in all_ways(table.names(), one, other):
        best = tighter(best, sum_along(table, way))
    return best


def is_barred(table):
    """Whether some ring has a sum that 0 does not keep, all of them tried."""
    for spot in [""] + table.names():
        for way in all_ways(table.names(), spot, spot):
            if len(way) > 2 and not keeps(sum_along(table, way), 0):
                return True
    return False


def is_closed(table):
    """Whether each bound of a table is the tightest sum along all ways."""
    spots = [""] + table.names()
    return not is_barred(table) and all(
        table.bound(one, other) == tightest(table, one, other) for one in spots for other in spots if one != other)


def all_rows(signals, most):
    """All rows of signals with at most so many of them, in the order of choices."""
    level = [()]
    found = []
    for _ in range(most + 1):
        found.extend(level)
        level = [row + (signal,) for row in level for signal in sorted(signals)]
    return found


def quiet(lanes, spots):
    found = set(spots)
    while True:
        more = {to for spot, signal, to in lanes if signal is None and spot in found} - found
        if not more:
            return found
        found |= more


def spots_of_row(lanes, firsts, row):
    """All spots to which a row leads along lanes."""
    here = quiet(lanes, firsts)
    for heard in row:
        here = quiet(lanes, {to for spot, signal, to in lanes if signal == heard and spot in here})
    return here


def leads(told, row):
    """Whether a row is one of what Rows is told by: signals, lanes, firsts, ends."""
    _, lanes, firsts, ends = told
    return bool(spots_of_row(lanes, firsts, row) & set(ends))


def random_told(random, signals, spots=4, lanes=7, quiet_share=0.2):
    """Signals, lanes, firsts and ends made up."""
    made = []
    for _ in range(random.randint(0, lanes)):
        signal = None if not signals or random.random() < quiet_share else random.choice(signals)
        made.append((random.randrange(spots), signal, random.randrange(spots)))
    firsts = [random.randrange(spots) for _ in range(random.randint(0, 2))]
    ends = [random.randrange(spots) for _ in range(random.randint(0, 3))]
    return (list(signals), made, firsts, ends)


# Watchers reckoned through without the program: their runs by exact fractions, and all their times at once by
# REGIONS. A region is a pair of tuples: the whole parts of the clocks' worths, and lots of clocks with like parts of a
# unit left over, the lot of those with none first (perhaps empty), then ascending. A worth beyond its cap has the whole
# part cap + 1 and stands in no lot.


def random_watcher(random, clocks=2, places=3, arrows=5, cuts=2, most=3, signals="ab", unseen=0.0, limits=0.3):
    """A watcher made up."""
    clocks = ["x", "y", "z"][:clocks]
    places = ["p", "q", "r", "s", "t", "u"][:places]

    def limit():
        return {clock: (random.choice(["upto", "upto", "below"]), random.randint(0, most))
                for clock in clocks if random.random() < limits}

    made = []
    for _ in range(arrows):
        words = ["from", "above", "upto", "below"]
        asked = [(random.choice(clocks), random.choice(words), random.randint(0, most))
                 for _ in range(random.randint(0, cuts)) if clocks]
        signal = None if random.random() < unseen else random.choice(signals)
        begun = [clock for clock in clocks if random.random() < 0.4]
        made.append((random.choice(places), signal, asked, begun, random.choice(places)))
    return Watcher(clocks, {place: limit() for place in places}, made,
                   [place for place in places if random.random() < 0.5])


def random_sure(random, **told):
    """A sure watcher made up: arrows that could go along with others are left out."""
    told.pop("unseen", None)
    watcher = random_watcher(random, **told)
    clocks, arrows = watcher.clocks(), []
    limits = {place: watcher.limit(place) for place in watcher.places()}
    for arrow in watcher.arrows():
        if not any(can_both_go(clocks, limits, arrow, other) for other in arrows):
            arrows.append(arrow)
    return Watcher(clocks, limits, arrows, watcher.ends())


def random_row(random, signals, many, most=3):
    """A timed row made up."""
    now, row = Fraction(0), []
    for _ in range(many if signals else 0):
        now += random.choice([0, Fraction(1, 3), Fraction(1, 2), 1, Fraction(random.randint(0, 2 * most), 2)])
        row.append((random.choice(signals), pair_of(now)))
    return row


def slightly_changed(random, watcher, most=3):
    """A sure watcher nearly like another one: a cut, an arrow, an end changed, or an arrow told in two parts."""
    arrows, ends = [list(arrow) for arrow in watcher.arrows()], watcher.ends()
    limits = {place: watcher.limit(place) for place in watcher.places()}
    kind = random.randrange(6)
    if arrows and kind in (0, 1):
        arrow = random.choice(arrows)
        words = {"upto": "below", "below": "upto", "from": "above", "above": "from"}
        arrow[2] = [(clock, words[word] if random.random() < 0.5 else word, number) for clock, word, number in arrow[2]]
    elif arrows and kind == 2:
        arrows.pop(random.randrange(len(arrows)))
    elif arrows and watcher.clocks() and kind == 3:
        place, signal, cuts, clocks, to = arrows.pop(0)
        clock, number = random.choice(watcher.clocks()), random.randint(0, most)
        arrows += [(place, signal, cuts + ((clock, word, number),), clocks, to) for word in ("upto", "above")]
    elif kind == 4:
        ends = ends[1:]
    other = Watcher(watcher.clocks(), limits, arrows, ends)
    pairs = [(one, two) for at, one in enumerate(other.arrows()) for two in other.arrows()[:at]]
    return watcher if any(can_both_go(other.clocks(), limits, one, two) for one, two in pairs) else other


def with_clocks(watcher, clocks):
    """The watcher with its clocks called otherwise."""
    names = dict(zip(watcher.clocks(), clocks))
    limits = {place: {names[clock]: bound for clock, bound in watcher.limit(place).items()} for place in watcher.places()}
    arrows = [(place, signal, [(names[clock], word, number) for clock, word, number in cuts],
               [names[clock] for clock in begun], to) for place, signal, cuts, begun, to in watcher.arrows()]
    return Watcher(clocks, limits, arrows, watcher.ends())


def can_both_go(clocks, limits, one, other):
    """Whether the cuts of two arrows from one place by one signal hold both at some worths that keep its limits."""
    if one[:2] != other[:2]:
        return False
    asked = list(one[2]) + list(other[2]) + [(clock,) + bound for clock, bound in limits[one[0]].items()]
    numbers = [cut[2] for cut in asked] + [0]
    halves = [Fraction(half, 2) for half in range(2 * max(numbers) + 2)]
    return all(any(all(keeps_cut(cut, {clock: worth}) for cut in asked if cut[0] == clock) for worth in halves)
               for clock in clocks)


def keeps_cut(cut, worths):
    clock, word, number = cut
    worth = worths[clock]
    return {"from": worth >= number, "above": worth > number, "upto": worth <= number, "below": worth < number}[word]


def keeps_limit(watcher, place, worths):
    return all(keeps_cut((clock,) + bound, worths) for clock, bound in watcher.limit(place).items())


def fraction(pair):
    return Fraction(pair[0], pair[1])


def pair_of(number):
    number = Fraction(number)
    return (number.numerator, number.denominator)


def stands_behind(watcher, steps):
    """The place and the worths behind pairs of arrows and exact times, None if they are no run."""
    place, now = watcher.places()[0], Fraction(0)
    worths = {clock: Fraction(0) for clock in watcher.clocks()}
    if not keeps_limit(watcher, place, worths):
        return None
    for number, time in steps:
        source, _, cuts, begun, to = watcher.arrows()[number]
        if source != place or time < now:
            return None
        worths = {clock: worth + time - now for clock, worth in worths.items()}
        if not keeps_limit(watcher, place, worths) or not all(keeps_cut(cut, worths) for cut in cuts):
            return None
        place, now = to, time
        worths = {clock: Fraction(0) if clock in begun else worth for clock, worth in worths.items()}
        if not keeps_limit(watcher, place, worths):
            return None
    return (place, worths)


def exact_run(run):
    return [(number, fraction(time)) for number, time in run]


def caps_of(watcher):
    """The greatest number of each clock."""
    caps = {clock: 0 for clock in watcher.clocks()}
    asked = [cut for arrow in watcher.arrows() for cut in arrow[2]]
    for place in watcher.places():
        asked += [(clock,) + bound for clock, bound in watcher.limit(place).items()]
    for clock, _, number in asked:
        caps[clock] = max(caps[clock], number)
    return caps


class Regions:
    """Regions of some clocks with caps."""

    def __init__(self, caps):
        self.clocks = list(caps)
        self.caps = [caps[clock] for clock in self.clocks]

    def start(self):
        return ((0,) * len(self.clocks), (tuple(range(len(self.clocks))),))

    def later(self, region):
        """The next region as time passes, the same one if it is left no more."""
        whole, lots = region
        whole = list(whole)
        if lots[0]:
            moved = tuple(at for at in lots[0] if whole[at] < self.caps[at])
            for at in lots[0]:
                if whole[at] == self.caps[at]:
                    whole[at] += 1
            return (tuple(whole), ((),) + ((moved,) if moved else ()) + lots[1:])
        if len(lots) == 1:
            return region
        for at in lots[-1]:
            whole[at] += 1
        return (tuple(whole), (lots[-1],) + lots[1:-1])

    def begin(self, region, clocks):
        whole, lots = region
        begun = [self.clocks.index(clock) for clock in clocks]
        whole = tuple(0 if at in begun else part for at, part in enumerate(whole))
        kept = [tuple(at for at in lot if at not in begun) for lot in lots]
        first = tuple(sorted(kept[0] + tuple(begun)))
        return (whole, (first,) + tuple(lot for lot in kept[1:] if lot))

    def keeps(self, region, cut):
        clock, word, number = cut
        at = self.clocks.index(clock)
        whole, is_whole = region[0][at], at in region[1][0]
        return {"from": whole >= number, "above": whole > number or (whole == number and not is_whole),
                "upto": whole < number or (whole == number and is_whole), "below": whole < number}[word]

    def keeps_all(self, region, cuts):
        return all(self.keeps(region, cut) for cut in cuts)

    def edge(self, region, clock):
        """Twice the worth of a clock, an odd number for all between two whole ones."""
        at = self.clocks.index(clock)
        return 2 * region[0][at] + (0 if at in region[1][0] else 1)


class Reckoned:
    """All that can come of a watcher, by regions; with an age up to a number, if one is told."""

    def __init__(self, watcher, age=None):
        self.watcher, self.age = watcher, age
        caps = caps_of(watcher)
        if age is not None:
            caps["age"] = age
        self.regions = Regions(caps)
        self.limits = {place: [(clock,) + bound for clock, bound in watcher.limit(place).items()]
                       for place in watcher.places()}
        if age is not None:
            for place in self.limits:
                self.limits[place].append(("age", "upto", age))

    def first(self):
        stand = (self.watcher.places()[0], self.regions.start())
        return {stand} if self.regions.keeps_all(stand[1], self.limits[stand[0]]) else set()

    def waited(self, stands):
        """The stands, and all that they become by waiting."""
        found = set()
        for place, region in stands:
            while (place, region) not in found and self.regions.keeps_all(region, self.limits[place]):
                found.add((place, region))
                region = self.regions.later(region)
        return found

    def went(self, stands, is_let=lambda number: True):
        """The stands right behind one arrow more, no time passing."""
        found = set()
        for place, region in stands:
            for number, (source, _, cuts, begun, to) in enumerate(self.watcher.arrows()):
                if source == place and is_let(number) and self.regions.keeps_all(region, cuts):
                    behind = self.regions.begin(region, begun)
                    if self.regions.keeps_all(behind, self.limits[to]):
                        found.add((to, behind))
        return found

    def entries(self):
        """Sets of the stands right behind no arrow, and behind one arrow and more that fewer do not lead to."""
        level, seen, found = self.first(), set(), []
        while level:
            found.append(level)
            seen |= level
            level = self.went(self.waited(level)) - seen
        return found

    def by_row(self, row):
        """The stands behind the last signal of a row, and all waits."""
        stands = self.waited(self.first())
        for signal in row:
            stands = self.waited(self.went(stands, lambda number: self.watcher.arrows()[number][1] == signal))
        return stands

    def can_go(self, stand):
        return bool(self.went(self.waited({stand})))


class Stands:
    """Where rows lead two sure watchers: triples of a place or None of each, and a region of all clocks of both."""

    def __init__(self, one, other):
        self.watchers = (one, other)
        caps = {}
        for at, watcher in enumerate(self.watchers):
            caps.update({(at, clock): cap for clock, cap in caps_of(watcher).items()})
        self.regions = Regions(caps)
        self.signals = sorted(set(one.signals()) | set(other.signals()))

    def cuts(self, at, cuts):
        return [((at, clock), word, number) for clock, word, number in cuts]

    def limits(self, at, place):
        return [((at, clock),) + bound for clock, bound in self.watchers[at].limit(place).items()]

    def first(self):
        region = self.regions.start()
        places = [watcher.places()[0] for watcher in self.watchers]
        held = [place if self.regions.keeps_all(region, self.limits(at, place)) else None
                for at, place in enumerate(places)]
        return (held[0], held[1], region)

    def waited(self, stand):
        found = []
        while stand not in found:
            found.append(stand)
            stand = stand[:2] + (self.regions.later(stand[2]),)
        return found

    def heard(self, stand, signal):
        places, begun = [None, None], []
        for at, watcher in enumerate(self.watchers):
            for place, heard_signal, cuts, clocks, to in watcher.arrows():
                asked = self.cuts(at, cuts) + (self.limits(at, place) if place == stand[at] else [])
                if place == stand[at] and heard_signal == signal and self.regions.keeps_all(stand[2], asked):
                    mine = [(at, clock) for clock in clocks]
                    if self.regions.keeps_all(self.regions.begin(stand[2], mine), self.limits(at, to)):
                        places[at] = to
                        begun += mine
        return (places[0], places[1], self.regions.begin(stand[2], begun))

    def fewest(self, is_wanted):
        """As few signals as can be that lead to a pair of truths, whether each is at an end, that is wanted."""
        level, seen, many = [self.first()], set(), 0
        while level:
            for stand in level:
                if is_wanted(*[stand[at] in watcher.ends() for at, watcher in enumerate(self.watchers)]):
                    return many
            behind = {self.heard(waited, signal) for stand in level for waited in self.waited(stand)
                      for signal in self.signals}
            level = sorted(behind - seen, key=repr)
            seen |= behind
            many += 1
        return None


def stretches_of_edges(edges):
    """Stretches told of whole numbers and all that is between two of them, each by its edge as Regions tell it."""
    found = []
    for edge in sorted(edges):
        if found and found[-1][1] == edge - 1:
            found[-1] = (found[-1][0], edge)
        else:
            found.append((edge, edge))
    return [(("from" if low % 2 == 0 else "above", low // 2),
             ("upto", high // 2) if high % 2 == 0 else ("below", high // 2 + 1)) for low, high in found]


# What arrows and time make of tables, by what changes tell of them.


def cut_by(table, cuts):
    """The table of worths from 0 on that keep cuts, None if there are none."""
    for name in table.names():
        table = table and cut(table, "", name, ("upto", 0))
    for clock, word, number in cuts:
        if table is None:
            return None
        if word in ("upto", "below"):
            table = cut(table, clock, "", (word, number))
        else:
            table = cut(table, "", clock, ("upto" if word == "from" else "below", -number))
    return table if table is None or len(table) else later(table)


def limit_cuts(watcher, place):
    return [(clock,) + bound for clock, bound in watcher.limit(place).items()]


def first_table(watcher, more=()):
    """The table of the first lot, with some clocks more; None if there is none."""
    names = watcher.clocks() + list(more)
    spots = [""] + names
    table = Table(names, {(one, other): ("upto", 0) for one in spots for other in spots if one != other})
    limits = limit_cuts(watcher, watcher.places()[0])
    table = cut_by(table, limits)
    return table and cut_by(later(table), limits)


def led_to(watcher, table, arrow):
    """The table of all that an arrow, and waits behind it, lead to from those of a table; None if nothing."""
    place, _, cuts, clocks, to = arrow
    table = cut_by(table, limit_cuts(watcher, place) + list(cuts))
    table = table and cut_by(begun(table, clocks), limit_cuts(watcher, to))
    return table and cut_by(later(table), limit_cuts(watcher, to))


def is_within_one(table, tables):
    return table is None or any(cut_by(other, []) is not None and within(table, cut_by(other, [])) for other in tables)


def is_closed_by_tables(watcher, lots, most, more=()):
    """Whether lots have the first one and all that arrows make of each, with what lies beyond most let go."""
    by_place = {place: [table for at, table in lots if at == place] for place in watcher.places()}
    if not is_within_one(first_table(watcher, more), by_place[watcher.places()[0]]):
        return False
    for arrow in watcher.arrows():
        for table in by_place[arrow[0]]:
            behind = led_to(watcher, table, arrow)
            if not is_within_one(behind and beyond(behind, most), by_place[arrow[4]]):
                return False
    return True


def bent_table(random, table, most=3):
    """A table with one bound told otherwise, or let go."""
    spots = [""] + table.names()
    one, other = random.sample(spots, 2)
    bounds = table.bounds()
    bounds.pop((one, other), None)
    if random.random() < 0.7:
        bounds[one, other] = (random.choice(["upto", "below"]), random.randint(-most, most))
    return Table(table.names(), bounds)


def bent_lots(random, lots):
    """A list of lots with one left out, or its table bent, or twice, or moved to another place, or all mixed up."""
    lots = list(lots)
    if not lots:
        return lots
    at = random.randrange(len(lots))
    place, table = lots[at]
    kind = random.randrange(6)
    if kind == 0:
        lots.pop(at)
    elif kind in (1, 2, 3) and len(table):
        lots[at] = [place, bent_table(random, table)]
    elif kind == 4:
        lots.append((random.choice(lots)[0], table))
    else:
        random.shuffle(lots)
    return lots


# Rules, and what they tell of timed rows, by their words alone.


def random_plain(random, signals, most=3):
    """A since or a soon made up."""
    word = random.choice(["since", "soon"])
    bounds = ["upto", "below", "from", "above"] if word == "since" else ["upto", "below"]
    return (word, random.choice(signals), random.choice(signals), random.choice(bounds), random.randint(0, most))


def random_rule(random, signals, depth=3, plain=2, most=3):
    """A rule made up, with at most so many since and soon, and so deep at most."""
    if depth == 1 or random.random() < 0.25:
        return random_plain(random, signals, most)
    if plain > 1 and random.random() < 0.75:
        many = random.randint(1, plain - 1)
        return (random.choice(["both", "either"]), random_rule(random, signals, depth - 1, many, most),
                random_rule(random, signals, depth - 1, plain - many, most))
    return ("not", random_rule(random, signals, depth - 1, plain, most))


def unkept(rule, row):
    """The indexes in a row of all signals for which a since or a soon has none that it asks for."""
    word, signal, other, bound, n = rule
    found = []
    for at, (name, time) in enumerate(row):
        beside = list(row[:at] if word == "since" else row[at + 1:])
        gaps = [abs(fraction(time) - fraction(to)) for heard, to in beside if heard == other]
        if name == signal and not any(keeps_cut(("x", bound, n), {"x": gap}) for gap in gaps):
            found.append(at)
    return found


def is_kept(rule, row):
    if rule[0] in ("since", "soon"):
        return not unkept(rule, row)
    truths = [is_kept(part, row) for part in rule[1:]]
    return {"not": not truths[0], "both": all(truths), "either": any(truths)}[rule[0]]


def as_lists(thing):
    """The thing with lists for tuples throughout."""
    return [as_lists(part) for part in thing] if isinstance(thing, (list, tuple)) else thing
