"""[59] to [67], and the errors, the limits and the example of [68]."""

import itertools
import random
import time
import unittest
from collections import Counter
from fractions import Fraction

from rowsintime.closing import closed, spread
from rowsintime.points import is_point, point
from rowsintime.runs import is_run, takes
from rowsintime.tables import Table
from rowsintime.toldrows import Told
from rowsintime.watchers import Watcher
from tests.helper import (
    as_lists, error_of, fault, fraction, keeps_cut, limit_cuts, looser, pair_of, random_watcher, stands_behind,
    strange_objects, tighter)

NAMES = "abcdefgh"


def house():
    """The watcher of the example of [68]."""
    return Watcher(["x"], {"home": {}, "armed": {"x": ("upto", 5)}}, [
        ("home", "door", [], ["x"], "armed"), ("armed", "bell", [("x", "from", 2)], [], "home")], ["home"])


def two_ways():
    """A watcher with two ways for a, b: b is soon by the one, late by the other."""
    return Watcher(["x"], {"p": {}, "q": {}, "r": {}}, [
        ("p", "a", [("x", "upto", 9)], ["x"], "q"), ("q", "b", [("x", "below", 2)], [], "r"),
        ("q", "b", [("x", "above", 3), ("x", "upto", 7)], [], "r")], [])


def bound_of(one, other, word, n):
    """What a word asks of how much more the one is than the other: a pair, and its upper bound."""
    if word in ("upto", "below"):
        return (one, other), (word, n)
    return (other, one), ("upto" if word == "from" else "below", -n)


def bounds_by_hand(watcher, way, known):
    """What a run by a way asks of its times, by pairs of names; None if the way does not lead on, or never can."""
    place, begun, ahead, asked = watcher.places()[0], {}, "", []
    if ("below", 0) in watcher.limit(place).values():
        return None
    for at, number in enumerate(way):
        source, _, cuts, clocks, to = watcher.arrows()[number]
        if source != place:
            return None
        now = NAMES[at]
        asked.append(bound_of(now, ahead, "from", 0))
        for clock, word, n in limit_cuts(watcher, place) + list(cuts):
            asked.append(bound_of(now, begun.get(clock, ""), word, n))
        for clock in clocks:
            begun[clock] = now
        for clock, word, n in limit_cuts(watcher, to):
            if begun.get(clock) == now:
                if (word, n) == ("below", 0):
                    return None
            else:
                asked.append(bound_of(now, begun.get(clock, ""), word, n))
        asked += [bound_of(now, "", word, n) for word, n in (known or {}).get(at + 1, [])]
        place, ahead = to, now
    bounds = {}
    for pair, bound in asked:
        bounds[pair] = tighter(bounds.get(pair), bound)
    return bounds


def tables_by_hand(watcher, row, known):
    """The closed tables of all ways, by ways in order."""
    found = {}
    numbers = [[at for at, arrow in enumerate(watcher.arrows()) if arrow[1] == signal] for signal in row]
    for way in itertools.product(*numbers):
        bounds = bounds_by_hand(watcher, way, known)
        if bounds is not None:
            table = Table(list(NAMES[:len(row)]), bounds)
            if point(table) is not None:
                found[way] = closed(table)
    return found


def upper_between(table, i, j):
    """The upper bound of how much more i is than j."""
    spots = "0" + NAMES
    one, other = ["" if at == 0 else spots[at] for at in (i, j)]
    return ("upto", 0) if i == j else table.bound(one, other)


def lower_told(bound):
    return bound and ("from" if bound[0] == "upto" else "above", -bound[1])


def pair_table(one, other, looks, more=()):
    """The table of points of one and points of other, told by other letters, that agree in looks."""
    names = one.names()
    primed = {name: name + "x" for name in names}
    primed[""] = ""
    bounds = dict(one.bounds())
    bounds.update({(primed[a], primed[b]): bound for (a, b), bound in other.bounds().items()})
    for look in looks:
        name = NAMES[look - 1]
        bounds[name, primed[name]] = bounds[primed[name], name] = ("upto", 0)
    bounds.update(more)
    return Table(names + [primed[name] for name in names], bounds)


def widest(pairs, looks, i):
    """How far apart the times of i can be in points of some pairs of tables that agree in looks."""
    if i == 0:
        return ("upto", 0)
    found = [spread(pair_table(one, other, looks), NAMES[i - 1], NAMES[i - 1] + "x")[1] for one, other in pairs
             if point(pair_table(one, other, looks)) is not None]
    best = found[0]
    for bound in found:
        best = looser(best, bound)
    return best


def quadrupled(table):
    return {pair: (word, 4 * n) for pair, (word, n) in table.bounds().items()}


def is_near(table, times, quarters):
    """Whether a point of a table has no told time farther away than so many quarters."""
    bounds = quadrupled(table)
    for at, told in enumerate(times):
        if told is not None:
            name = NAMES[at]
            bounds[name, ""] = tighter(bounds.get((name, "")), ("upto", 4 * told + quarters))
            bounds["", name] = tighter(bounds.get(("", name)), ("upto", quarters - 4 * told))
    return point(Table(table.names(), bounds)) is not None


def moved_by_hand(tables, times):
    halves = 0
    while not any(is_near(table, times, 2 * halves + 1) for table in tables):
        halves += 1
    return (pair_of(Fraction(halves, 2)), any(is_near(table, times, 2 * halves) for table in tables))


def lots_of(numbers):
    for many in range(len(numbers) + 1):
        yield from itertools.combinations(numbers, many)


def fewest(numbers, is_enough):
    found = [lot for lot in lots_of(numbers) if is_enough(lot)]
    return [lot for lot in found if len(lot) == len(found[0])] if found else []


def random_known(rolls, many):
    if rolls.random() < 0.4:
        return None
    return {number: [(rolls.choice(["upto", "below", "from", "above"]), rolls.randint(0, 6))
                     for _ in range(rolls.randint(0, 2))] for number in range(1, many + 1) if rolls.random() < 0.4}


def random_told(rolls, most_row=4, **told):
    """A told row made up, with its watcher and what is known, that has a way."""
    while True:
        options = dict(clocks=rolls.randint(0, 2), places=rolls.randint(1, 3), arrows=6, cuts=2, most=3, limits=0.2)
        watcher = random_watcher(rolls, **dict(options, **told))
        row = [rolls.choice("ab") for _ in range(rolls.randint(0, most_row))]
        known = random_known(rolls, len(row))
        if tables_by_hand(watcher, row, known):
            return Told(watcher, row, known), watcher, row, known


class ExampleTest(unittest.TestCase):
    def test_the_example(self):
        told = Told(house(), ["door", "bell"])
        self.assertEqual(told.ways(), [(0, 1)])
        self.assertEqual(told.gap(1, 2), (("from", 2), ("upto", 5)))
        self.assertEqual(told.gap(0, 1), (("from", 0), None))
        self.assertEqual(told.leaves((0, 1), [1], 2), ("upto", 3))
        self.assertIsNone(told.leaves((0, 1), [], 1))
        self.assertEqual(told.stiff((0, 1)), [(0,), (1,), (2,)])
        self.assertEqual(told.fewest_looks(3), [(1,), (2,)])
        self.assertEqual(told.moved([4, 12]), ((3, 2), True))
        self.assertEqual(told.fewest_wrong([4, 12]), [((1,), (0, 1)), ((2,), (0, 1))])

    def test_by_name_and_as_lists(self):
        told = Told(watcher=as_told(house()), row=("door", "bell"), known={2: [["upto", 9]]})
        self.assertEqual(told.table(way=[0, 1]), told.table((0, 1)))
        self.assertEqual(told.gap(i=0, j=2), (("from", 2), ("upto", 9)))
        self.assertEqual(told.reached(i=0, j=0)[0][0], (0, 1))
        self.assertEqual(told.leaves(way=[0, 1], looks=(1,), i=2), ("upto", 3))
        self.assertEqual(told.stiff(way=[0, 1]), [(0,), (1,), (2,)])
        self.assertEqual(told.known_by(way=[0, 1], looks=(2,)), (0, 2))
        self.assertEqual(told.wide(looks=(1,), i=2), ("upto", 3))
        self.assertEqual(told.fewest_looks(w=20), [()])
        self.assertIsNotNone(told.mistaken(one=[0, 1], other=(0, 1), looks=(1, 2)))
        self.assertEqual(told.moved(times=(4, 12)), ((3, 1), True))
        self.assertEqual(told.moved_to(times=(4, None))[1]["a"], (4, 1))
        self.assertIs(told.believes(way=[0, 1], times=(4, 12), lot=(1,)), False)
        self.assertIs(told.believes([0, 1], [5, 12], [2]), True)
        self.assertEqual(told.fewest_wrong(times=(4, 8)), [((), (0, 1))])


def as_told(watcher):
    return Watcher(watcher.clocks(), {place: watcher.limit(place) for place in watcher.places()},
                   as_lists(watcher.arrows()), tuple(watcher.ends()))


class WaysTest(unittest.TestCase):
    def test_ways_and_tables_against_bounds_by_hand(self):
        rolls = random.Random(1)
        counted = Counter()
        for _ in range(250):
            watcher = random_watcher(rolls, clocks=rolls.randint(0, 3), places=rolls.randint(1, 3), arrows=7, limits=0.15)
            row = [rolls.choice("ab") for _ in range(rolls.randint(0, 4))]
            known = random_known(rolls, len(row))
            tables = tables_by_hand(watcher, row, known)
            if not tables:
                self.assertEqual(fault(lambda: Told(watcher, row, known)), ("NoWay",))
                continue
            told = Told(watcher, row, known)
            self.assertEqual(told.ways(), list(tables))
            self.assertEqual((told.row(), len(told)), (row, len(row)))
            for way in tables:
                self.assertEqual(told.table(way), tables[way])
            counted[len(tables) > 1] += 1
        self.assertGreater(min(counted[True], counted[False]), 20)

    def test_a_timed_row_has_a_run_just_if_its_times_are_a_point(self):
        rolls = random.Random(2)
        for _ in range(60):
            told, watcher, row, known = random_told(rolls, 3)
            watcher = Watcher(watcher.clocks(), {place: watcher.limit(place) for place in watcher.places()},
                              watcher.arrows(), watcher.places())
            for _ in range(20):
                times = sorted(Fraction(rolls.randint(0, 12), 2) for _ in row)
                timed = [(signal, pair_of(at)) for signal, at in zip(row, times)]
                worths = {NAMES[at]: pair_of(one) for at, one in enumerate(times)}
                keeps = all(keeps_cut(("x", word, n), {"x": times[number - 1]})
                            for number, bounds in (known or {}).items() for word, n in bounds)
                ways = [way for way in told.ways() if is_point(told.table(way), worths)]
                self.assertIs(bool(ways), keeps and takes(watcher, timed))
                for way in ways:
                    self.assertTrue(is_run(watcher, list(zip(way, [pair_of(one) for one in times]))))

    def test_the_empty_row(self):
        told = Told(house(), [])
        self.assertEqual((told.ways(), told.row(), len(told)), ([()], [], 0))
        self.assertEqual(told.table(()), Table([], {}))
        self.assertEqual(told.gap(0, 0), (("from", 0), ("upto", 0)))
        self.assertEqual(told.reached(0, 0), (((), {}), ((), {})))
        self.assertEqual((told.stiff([]), told.known_by((), [])), ([(0,)], (0,)))
        self.assertEqual((told.fewest_looks(0), told.parting_looks(), told.mistaken((), (), [])), ([()], [()], ({}, {})))
        self.assertEqual((told.moved([]), told.moved_to([]), told.fewest_wrong([])), (((0, 1), True), ((), {}), [((), ())]))
        never = Watcher(["x"], {"p": {"x": ("below", 0)}}, [("p", "a", [], ["x"], "p")], ["p"])
        self.assertEqual(fault(lambda: Told(never, [])), ("NoWay",))
        self.assertEqual(fault(lambda: Told(never, ["a"])), ("NoWay",))

    def test_what_is_known(self):
        row = ["door", "bell"]
        self.assertEqual(Told(house(), row, {1: [("from", 3), ("below", 5)]}).gap(0, 2), (("from", 5), ("below", 10)))
        self.assertEqual(Told(house(), row, {1: (), 2: [("upto", 2)]}).gap(0, 1), (("from", 0), ("upto", 0)))
        self.assertEqual(fault(lambda: Told(house(), row, {1: [("from", 3), ("below", 3)]})), ("NoWay",))
        self.assertEqual(fault(lambda: Told(house(), row, {2: [("below", 2)]})), ("NoWay",))
        self.assertEqual(fault(lambda: Told(house(), row, {2: [("below", 0)]})), ("NoWay",))
        self.assertEqual(fault(lambda: Told(house(), ["door", "lamp"])), ("NoWay",))
        great = 10 ** 12 - 1
        self.assertEqual(Told(house(), row, {1: [("from", great)]}).gap(0, 2), (("from", great + 2), None))

    def test_ways_that_are_barred_by_what_is_known(self):
        row = ["a", "b"]
        self.assertEqual(Told(two_ways(), row).ways(), [(0, 1), (0, 2)])
        self.assertEqual(Told(two_ways(), row, {1: [("upto", 0)], 2: [("upto", 3)]}).ways(), [(0, 1)])
        self.assertEqual(Told(two_ways(), row, {1: [("upto", 0)], 2: [("above", 3)]}).ways(), [(0, 2)])

    def test_equal(self):
        row = ["door", "bell"]
        told = Told(house(), row)
        for other in (Told(house(), tuple(row), {}), Told(house(), row, {2: []}), Told(as_told(house()), row, {1: (), 2: []})):
            self.assertTrue(told == other and not told != other)
        one = Told(house(), row, {1: [("from", 1), ("from", 1)], 2: [("upto", 9)]})
        self.assertEqual(one, Told(house(), row, {2: (["upto", 9],), 1: [["from", 1], ("from", 1)]}))
        self.assertNotEqual(one, Told(house(), row, {1: [("from", 1)], 2: [("upto", 9)]}))
        self.assertNotEqual(told, Told(house(), row, {1: [("from", 0)]}))
        self.assertNotEqual(told, Told(house(), ["door"]))
        changed = Watcher(["x"], {"home": {}, "armed": {"x": ("upto", 5)}}, house().arrows(), [])
        self.assertNotEqual(told, Told(changed, row))
        for thing in strange_objects():
            self.assertFalse(told == thing)

    def test_what_callers_change_changes_nothing(self):
        row, known = ["door", "bell"], {2: [["upto", 9]]}
        told = Told(house(), row, known)
        row.append("x")
        known[2][0][1] = 3
        known[1] = [("from", 5)]
        told.row().clear()
        told.ways().clear()
        told.stiff((0, 1)).clear()
        told.reached(0, 2)[0][1].clear()
        self.assertEqual((told.row(), told.ways(), told.gap(0, 2)), (["door", "bell"], [(0, 1)], (("from", 2), ("upto", 9))))
        self.assertEqual(told, Told(house(), ["door", "bell"], {2: [("upto", 9)]}))


class GapTest(unittest.TestCase):
    def test_gaps_and_what_is_reached(self):
        rolls = random.Random(3)
        words = Counter()
        for _ in range(120):
            told, watcher, row, known = random_told(rolls)
            tables = {way: told.table(way) for way in told.ways()}
            for i in range(len(row) + 1):
                for j in range(len(row) + 1):
                    low, high = [self.loosest(tables, *pair) for pair in ((i, j), (j, i))]
                    self.assertEqual(told.gap(i, j), (lower_told(low), high))
                    self.check_reached(told, tables, i, j, told.gap(i, j), words)
        self.assertGreater(min(words[word] for word in ("from", "above", "upto", "below", None)), 20)

    def loosest(self, tables, i, j):
        best = ("below", -10 ** 9)
        for table in tables.values():
            best = looser(best, upper_between(table, i, j))
        return best

    def check_reached(self, told, tables, i, j, gap, words):
        reached = told.reached(i, j)
        self.assertIsInstance(reached, tuple)
        for bound, paper in zip(gap, reached):
            words[bound and bound[0]] += 1
            if bound is None:
                self.assertIsNone(paper)
                continue
            way, worths = paper
            self.assertTrue(is_point(tables[way], worths))
            self.assertEqual(list(worths), list(NAMES[:len(told)]))
            exact = {0: Fraction(0), **{at + 1: fraction(worths[NAMES[at]]) for at in range(len(told))}}
            over = exact[j] - exact[i] - bound[1]
            within = {"from": over == 0, "upto": over == 0, "above": 0 < over < Fraction(1, 2),
                      "below": -Fraction(1, 2) < over < 0}
            self.assertTrue(within[bound[0]], (bound, over))

    def test_gaps_turned_about(self):
        told = Told(two_ways(), ["a", "b"])
        self.assertEqual(told.gap(1, 2), (("from", 0), ("upto", 7)))
        self.assertEqual(told.gap(2, 1), (("from", -7), ("upto", 0)))
        self.assertEqual(told.gap(0, 2), (("from", 0), ("upto", 16)))
        self.assertEqual(told.gap(2, 2), (("from", 0), ("upto", 0)))
        self.assertEqual(Told(two_ways(), ["a", "b"], {2: [("above", 12)]}).gap(2, 1), (("from", -7), ("below", -3)))


class LooksTest(unittest.TestCase):
    def test_leaves_against_two_points_at_once(self):
        rolls = random.Random(4)
        for _ in range(60):
            told, watcher, row, known = random_told(rolls, 3)
            way = rolls.choice(told.ways())
            table = told.table(way)
            for looks in lots_of(range(1, len(row) + 1)):
                for i in range(len(row) + 1):
                    wanted = widest([(table, table)], looks, i)
                    self.assertEqual(told.leaves(way, rolls.sample(looks, len(looks)), i), wanted)
                    if i == 0 or i in looks:
                        self.assertEqual(wanted, ("upto", 0))

    def test_stiff_lots(self):
        rolls = random.Random(5)
        many = Counter()
        for _ in range(250):
            told, watcher, row, known = random_told(rolls)
            way = rolls.choice(told.ways())
            table = told.table(way)
            numbers = range(len(row) + 1)
            lots = {tuple(j for j in numbers if self.are_stiff(table, i, j)) for i in numbers}
            self.assertEqual(told.stiff(way), sorted(lots))
            looks = rolls.sample(range(1, len(row) + 1), rolls.randint(0, len(row)))
            sure = sorted({j for i in [0] + looks for j in numbers if self.are_stiff(table, i, j)})
            self.assertEqual(told.known_by(way, looks), tuple(sure))
            many[len(lots) < len(numbers)] += 1
        self.assertGreater(min(many[True], many[False]), 20)

    def are_stiff(self, table, i, j):
        one, other = upper_between(table, i, j), upper_between(table, j, i)
        return one is not None and other is not None and one[0] == other[0] == "upto" and one[1] == -other[1]

    def test_wide_against_two_points_at_once(self):
        rolls = random.Random(6)
        several = 0
        for _ in range(40):
            told, watcher, row, known = random_told(rolls, 3)
            if len(told.ways()) > 6:
                continue
            several += len(told.ways()) > 1
            tables = [told.table(way) for way in told.ways()]
            pairs = [(one, other) for one in tables for other in tables]
            for looks in lots_of(range(1, len(row) + 1)):
                for i in range(len(row) + 1):
                    self.assertEqual(told.wide(looks, i), widest(pairs, looks, i))
        self.assertGreater(several, 10)

    def test_fewest_looks(self):
        rolls = random.Random(7)
        sizes = Counter()
        for _ in range(60):
            told, watcher, row, known = random_told(rolls)
            if len(told.ways()) > 6:
                continue
            numbers = range(1, len(row) + 1)
            w = rolls.randint(0, 4)

            def is_narrow(looks):
                bounds = [told.wide(looks, i) for i in numbers]
                return all(bound is not None and bound[1] <= w for bound in bounds)

            wanted = fewest(numbers, is_narrow)
            self.assertEqual(told.fewest_looks(w), wanted)
            sizes[len(wanted[0])] += 1
            if len(told.ways()) == 1:
                self.assertEqual(len(told.fewest_looks(0)[0]), len(told.stiff(told.ways()[0])) - 1)
        self.assertGreater(len(sizes), 2)

    def test_below_w_is_narrow_enough(self):
        told = Told(Watcher(["x"], {"p": {}}, [("p", "a", [("x", "above", 1), ("x", "below", 3)], [], "p")], []), ["a"])
        self.assertEqual(told.wide([], 1), ("below", 2))
        self.assertEqual((told.fewest_looks(2), told.fewest_looks(1)), ([()], [(1,)]))

    def test_mistaken(self):
        rolls = random.Random(8)
        truths = Counter()
        for _ in range(300):
            told, watcher, row, known = random_told(rolls, 3)
            one, other = rolls.choice(told.ways()), rolls.choice(told.ways())
            looks = rolls.sample(range(1, len(row) + 1), rolls.randint(0, len(row)))
            found = told.mistaken(one, other, looks)
            is_any = point(pair_table(told.table(one), told.table(other), looks)) is not None
            self.assertIs(found is not None, is_any)
            truths[is_any] += 1
            if found is not None:
                self.assertTrue(is_point(told.table(one), found[0]) and is_point(told.table(other), found[1]))
                self.assertEqual(list(found[0]), list(NAMES[:len(row)]))
                self.assertTrue(all(found[0][NAMES[look - 1]] == found[1][NAMES[look - 1]] for look in looks))
        self.assertGreater(min(truths[True], truths[False]), 3)

    def test_parting_looks(self):
        rolls = random.Random(9)
        for _ in range(60):
            told, watcher, row, known = random_told(rolls)
            ways = told.ways()
            if len(ways) > 6:
                continue
            wanted = fewest(range(1, len(row) + 1), lambda looks: all(
                told.mistaken(one, other, looks) is None for at, one in enumerate(ways) for other in ways[:at]))
            self.assertEqual(told.parting_looks(), wanted)

    def test_ways_told_apart(self):
        told = Told(two_ways(), ["a", "b"])
        self.assertEqual(told.parting_looks(), [(1, 2)])
        self.assertIsNotNone(told.mistaken((0, 1), (0, 2), [2]))
        self.assertIsNone(told.mistaken((0, 1), (0, 2), [2, 1]))
        self.assertEqual(told.wide([1], 2), ("upto", 7))
        self.assertEqual(told.leaves((0, 1), [1], 2), ("below", 2))
        self.assertEqual(Told(two_ways(), ["a"]).parting_looks(), [()])
        alike = Watcher([], {"p": {}, "q": {}}, [("p", "a", [], [], "q"), ("p", "a", [], [], "p")], [])
        self.assertEqual(Told(alike, ["a"]).parting_looks(), [])


class TimesTest(unittest.TestCase):
    def random_times(self, rolls, many):
        return [None if rolls.random() < 0.2 else rolls.randint(0, 9) for _ in range(many)]

    def test_moved(self):
        rolls = random.Random(10)
        seen = Counter()
        for _ in range(400):
            told, watcher, row, known = random_told(rolls)
            times = self.random_times(rolls, len(row))
            tables = {way: told.table(way) for way in told.ways()}
            e, is_met = told.moved(times)
            self.assertEqual((e, is_met), moved_by_hand(list(tables.values()), times), (times, row))
            seen[e[1], is_met] += 1
            way, worths = told.moved_to(times)
            self.assertTrue(is_point(tables[way], worths))
            self.assertEqual(list(worths), list(NAMES[:len(row)]))
            for at, one in enumerate(times):
                if one is not None:
                    off = abs(fraction(worths[NAMES[at]]) - one)
                    self.assertTrue(off <= fraction(e) if is_met else off < fraction(e) + Fraction(1, 2))
        self.assertGreater(len(seen), 2)

    def test_told_times_that_just_miss(self):
        above = Told(Watcher(["x"], {"p": {}}, [("p", "a", [("x", "above", 3)], ["x"], "p")], []), ["a", "a"])
        self.assertEqual(above.moved([3, 7]), ((0, 1), False))
        self.assertEqual(above.moved([4, 7]), ((0, 1), False))
        self.assertEqual(above.moved([4, 8]), ((0, 1), True))
        self.assertEqual(above.moved([2, 9]), ((1, 1), False))
        self.assertEqual(above.moved([9, 9]), ((3, 2), False))
        self.assertEqual(above.moved([None, None]), ((0, 1), True))
        self.assertEqual(above.moved([9, 2]), ((5, 1), False))
        great = 10 ** 12 - 1
        self.assertEqual(above.moved([great, 0]), (pair_of(Fraction(great + 3, 2)), False))
        way, worths = above.moved_to([9, 9])
        self.assertTrue(fraction(worths["b"]) - fraction(worths["a"]) > 3 and fraction(worths["b"]) < 11)

    def test_believes_and_fewest_wrong(self):
        rolls = random.Random(11)
        sizes = Counter()
        for _ in range(120):
            told, watcher, row, known = random_told(rolls)
            times = self.random_times(rolls, len(row))
            numbers = [at + 1 for at, one in enumerate(times) if one is not None]

            def does(way, lot):
                kept = [None if at + 1 in lot else one for at, one in enumerate(times)]
                return is_near(told.table(way), kept, 0)

            for _ in range(5):
                way = rolls.choice(told.ways())
                lot = rolls.sample(range(1, len(row) + 1), rolls.randint(0, len(row)))
                self.assertIs(told.believes(way, times, lot), does(way, lot))
            lots = fewest(numbers, lambda lot: any(does(way, lot) for way in told.ways()))
            wanted = [(lot, [way for way in told.ways() if does(way, lot)][0]) for lot in lots]
            self.assertEqual(told.fewest_wrong(times), wanted)
            sizes[len(lots[0])] += 1
            self.assertIs(told.moved(times) == ((0, 1), True), lots == [()])
        self.assertGreater(len(sizes), 2)


class ErrorsTest(unittest.TestCase):
    def test_errors_of_told_in_their_order(self):
        unseen = Watcher([], {"p": {}}, [("p", "a", [], [], "p"), ("p", None, [], [], "p")], [])
        self.assertEqual(fault(lambda: Told(unseen, None, 7)), ("Unseen", 1))
        self.assertEqual(fault(lambda: Told(house(), None, 7)), ("BadRow", 0))
        self.assertEqual(fault(lambda: Told(house(), ["door", "Bell", 3], 7)), ("BadRow", 1))
        self.assertEqual(fault(lambda: Told(house(), ["lamp"], 7)), ("BadKnown", None))
        self.assertEqual(fault(lambda: Told(house(), ["lamp"], {2: [], 1: 7})), ("BadKnown", 2))
        self.assertEqual(fault(lambda: Told(house(), ["lamp"], {1: [], 0: 7})), ("BadKnown", 0))
        self.assertEqual(fault(lambda: Told(house(), ["lamp"], {True: []})), ("BadKnown", True))
        self.assertEqual(fault(lambda: Told(house(), ["lamp"], {(1,): []})), ("BadKnown", (1,)))
        self.assertEqual(fault(lambda: Told(house(), ["lamp"], {1: [("upto", 1)]})), ("NoWay",))
        wrong = [7, None, "upto", {}, [7], [("upto",)], [("upto", 1, 2)], [("up", 1)], [("upto", -1)], [("upto", True)],
                 [("upto", (1, 1))], [(["upto"], 1)], [("upto", 1), None]]
        for thing in wrong:
            self.assertEqual(fault(lambda: Told(house(), ["door"], {1: thing})), ("BadKnown", 1))
        for thing in strange_objects():
            if not isinstance(thing, (list, tuple)):
                self.assertEqual(fault(lambda: Told(house(), thing)), ("BadRow", 0))
            if not isinstance(thing, dict) and thing is not None:
                self.assertEqual(fault(lambda: Told(house(), ["door"], thing)), ("BadKnown", None))

    def test_any_objects_for_ways(self):
        told = Told(house(), ["door", "bell"])
        works = [lambda way: told.table(way), lambda way: told.leaves(way, None, None), lambda way: told.stiff(way),
                 lambda way: told.known_by(way, None), lambda way: told.mistaken(way, None, None),
                 lambda way: told.mistaken((0, 1), way, None), lambda way: told.believes(way, None, None)]
        ways = strange_objects() + [(0,), (1, 0), (0, 1, 0), [0, True], ["0", 1], ((0, 1),), {0: 1}, (0, 1.0)]
        for way in [way for way in ways if way != (0, 1)]:
            for work in works:
                error = error_of(lambda: work(way))
                self.assertEqual((error.__class__.__name__, error.way is way), ("BadWay", True), way)
        bad = [9]
        self.assertIs(error_of(lambda: told.mistaken(bad, None, None)).way, bad)

    def test_any_objects_for_signals(self):
        told = Told(house(), ["door", "bell"])
        works = [lambda i: told.gap(i, 0), lambda i: told.gap(0, i), lambda i: told.reached(i, 0),
                 lambda i: told.reached(0, i), lambda i: told.leaves((0, 1), [], i), lambda i: told.wide([], i)]
        for thing in strange_objects() + [3, 10 ** 20, -1, (1, 1)]:
            for work in works:
                if isinstance(thing, int) and not isinstance(thing, bool) and 0 <= thing <= 2:
                    self.assertIsNone(error_of(lambda: work(thing)))
                    continue
                error = error_of(lambda: work(thing))
                self.assertEqual((error.__class__.__name__, error.thing is thing), ("NoSignal", True))
        one, other = [1], [2]
        self.assertIs(error_of(lambda: told.gap(one, other)).thing, one)
        self.assertIs(error_of(lambda: told.reached(0, other)).thing, other)

    def test_any_objects_for_looks(self):
        told = Told(house(), ["door", "bell"])
        works = [lambda looks: told.leaves((0, 1), looks, None), lambda looks: told.known_by((0, 1), looks),
                 lambda looks: told.wide(looks, None), lambda looks: told.mistaken((0, 1), (0, 1), looks),
                 lambda looks: told.believes((0, 1), [1, 1], looks)]
        wrong = [([0], 0), ([1, 3], 1), ([1, 1], 1), ([2, 1, 2], 2), ([True], 0), ([1, None], 1), ([[1]], 0), ([-1], 0)]
        wrong += [(thing, 0) for thing in strange_objects() if not isinstance(thing, (list, tuple))]
        for looks, index in wrong:
            for work in works:
                self.assertEqual(fault(lambda: work(looks)), ("BadLooks", index), looks)

    def test_any_objects_for_times(self):
        told = Told(house(), ["door", "bell"])
        works = [lambda times: told.moved(times), lambda times: told.moved_to(times),
                 lambda times: told.believes((0, 1), times, None), lambda times: told.fewest_wrong(times)]
        wrong = [([], 2), ([1], 2), ([1, 2, 3], 2), ([1, -1], 1), ([True, 2], 0), ([1, (2, 1)], 1), ([1, 2, "x"], 2),
                 ([None, None, None], 2), (["x"], 0), ([1, 2, 3, None, "x"], 4)]
        wrong += [(thing, 0) for thing in strange_objects() if not isinstance(thing, (list, tuple))]
        for times, index in wrong:
            for work in works:
                self.assertEqual(fault(lambda: work(times)), ("BadTimes", index), times)

    def test_numbers_for_fewest_looks(self):
        told = Told(house(), ["door", "bell"])
        for thing in strange_objects() + [-1, (1, 1)]:
            if isinstance(thing, int) and not isinstance(thing, bool) and thing >= 0:
                continue
            error = error_of(lambda: told.fewest_looks(thing))
            self.assertEqual((error.__class__.__name__, error.thing is thing), ("BadNumber", True))


class SameTest(unittest.TestCase):
    def test_what_is_free_is_the_same_for_equal_ones(self):
        rolls = random.Random(12)
        for _ in range(30):
            told, watcher, row, known = random_told(rolls, 3)
            turned = {number: as_lists(known[number]) for number in reversed(list(known or {}))}
            other = Told(as_told(watcher), tuple(row), turned)
            times = [rolls.randint(0, 5) for _ in row]
            self.assertEqual(told, other)
            self.assertEqual(told.moved_to(times), other.moved_to(tuple(times)))
            for i in range(len(row) + 1):
                self.assertEqual(told.reached(0, i), other.reached(0, i))
            way = told.ways()[0]
            looks = list(range(1, len(row) + 1))
            self.assertEqual(told.mistaken(way, way, looks), other.mistaken(list(way), list(way), tuple(looks[::-1])))


class SoonTest(unittest.TestCase):
    def many_ways(self, signals):
        """Two arrows for each of so many signals, no way of which is barred."""
        arrows = [("p", "a", [("x", "from", 0), ("y", "upto", 9), ("z", "upto", 9)], ["x"], "p"),
                  ("p", "a", [("y", "above", 1), ("z", "upto", 9)], ["y", "z"], "p"), ("p", "b", [("x", "upto", 9)], [], "p")]
        return Told(Watcher(["x", "y", "z"], {"p": {"x": ("upto", 9)}}, arrows, []), signals)

    def timed(self, work):
        begin = time.monotonic()
        found = work()
        self.assertLess(time.monotonic() - begin, 1)
        return found

    def test_eight_signals(self):
        told = self.timed(lambda: self.many_ways(list("abababba")[:8]))
        self.assertEqual(len(told), 8)
        self.assertLessEqual(len(told.ways()), 40)
        self.assertGreater(len(told.ways()), 10)
        times = [9 - at for at in range(8)]
        for work in (lambda: told.gap(1, 8), lambda: told.reached(1, 8), lambda: told.moved(times),
                     lambda: told.moved_to(times), lambda: told.fewest_wrong(times), lambda: told.fewest_wrong([10 ** 12 - 1] * 8),
                     lambda: told.leaves(told.ways()[0], [3, 1], 8), lambda: told.table(told.ways()[-1]),
                     lambda: told.stiff(told.ways()[-1])):
            self.timed(work)

    def test_five_signals_and_six_ways(self):
        arrows = [("p", "a", [("x", "upto", 9)], [], "p")] + [
            ("p", "b", [("x", word, n)], ["x"], place) for word, n, place in (
                ("upto", 3, "p"), ("above", 1, "q"), ("from", 4, "p"), ("below", 7, "q"), ("upto", 9, "r"), ("above", 2, "r"))]
        arrows += [(place, "a", [("x", "upto", 8)], [], place) for place in "qr"]
        told = Told(Watcher(["x"], {"p": {}, "q": {}, "r": {}}, arrows, []), list("aabaa"))
        self.assertEqual(len(told.ways()), 6)
        for work in (lambda: told.fewest_looks(0), lambda: told.fewest_looks(5), lambda: told.parting_looks(),
                     lambda: told.wide([2, 4], 3), lambda: told.mistaken(told.ways()[0], told.ways()[5], [1, 2])):
            self.timed(work)

    def test_stands_of_points(self):
        told = Told(house(), ["door", "bell", "door", "bell"])
        way, worths = told.reached(1, 4)[0]
        self.assertIsNotNone(stands_behind(house(), [(number, fraction(worths[name])) for number, name in zip(way, "abcd")]))


if __name__ == "__main__":
    unittest.main()
