"""[79] to [84], and the errors, the limits and the example of [85]."""

import itertools
import random
import time
import unittest
from collections import Counter
from fractions import Fraction

from rowsintime.closing import spread
from rowsintime.heights import are_fast_heights, are_slow_heights, fast_heights, slow_heights
from rowsintime.points import point
from rowsintime.rounds import faster, fastest, is_round, laps, leaps, round_time, slower, slowest
from rowsintime.runs import is_run
from rowsintime.watchers import Watcher
from tests.helper import as_lists, error_of, fault, fraction, pair_of, random_watcher, strange_objects
from tests.test_logs import NAMES, asked_of, table_of
from tests.test_toldrows import as_told


def doors():
    """The example of [85]."""
    return Watcher(["x"], {"shut": {}, "open": {}}, [
        ("shut", "ring", [("x", "from", 2)], ["x"], "open"), ("open", "push", [("x", "upto", 3)], [], "shut")], ["shut"])


def timed_doors():
    """A watcher with rounds of several means: they take from 2 upto 3, above 1 below 4, or 5 with one arrow more."""
    return Watcher(["x"], {"p": {}, "q": {}}, [
        ("p", "a", [("x", "from", 2), ("x", "upto", 3)], ["x"], "p"), ("p", "b", [("x", "above", 1), ("x", "below", 4)], ["x"], "p"),
        ("p", None, [], [], "q"), ("q", "c", [("x", "from", 5), ("x", "upto", 5)], ["x"], "p")], [])


def fresh_ones(watcher):
    return [at for at, arrow in enumerate(watcher.arrows()) if set(arrow[3]) == set(watcher.clocks())]


def circles(watcher):
    """All circles, in order."""
    arrows, found = watcher.arrows(), []
    for many in range(1, len(watcher.places()) + 1):
        for way in itertools.permutations(range(len(arrows)), many):
            ends = [arrows[number][4] for number in way]
            begins = [arrows[number][0] for number in way]
            if way[0] == min(way) and ends[:-1] == begins[1:] and ends[-1] == begins[0] and len(set(begins)) == many:
                found.append(way)
    return found


def is_never_led_to(watcher, number):
    """Whether a clock that an arrow begins has a limit behind it that 0 does not keep."""
    _, _, _, clocks, to = watcher.arrows()[number]
    return any(watcher.limit(to).get(clock) == ("below", 0) for clock in clocks)


def leaps_by_hand(watcher):
    """All leaps, in order, each leg told by its own table."""
    fresh, found, starts = fresh_ones(watcher), {}, [None]
    while starts:
        start = starts.pop()
        place = watcher.places()[0] if start is None else watcher.arrows()[start][4]
        found[start] = []
        for leg in legs_by_hand(watcher, fresh, place):
            names = NAMES[:len(leg)]
            table = table_of(names, asked_of(watcher, leg, names)[0])
            if point(table) is None or any(is_never_led_to(watcher, number) for number in leg):
                continue
            found[start].append((start, leg) + spread(table, names[-1], ""))
            if leg[-1] not in found and leg[-1] not in starts:
                starts.append(leg[-1])
    numbers = sorted(start for start in found if start is not None)
    return [leap for start in [None] + numbers for leap in found[start]]


def legs_by_hand(watcher, fresh, place):
    level, found = [((), place)], []
    while level:
        level = [(way + (number,), arrow[4]) for way, at in level for number, arrow in enumerate(watcher.arrows()) if arrow[0] == at]
        found += [way for way, _ in level if way[-1] in fresh]
        level = [(way, to) for way, to in level if way[-1] not in fresh]
    return found


def rounds_by_hand(watcher):
    """All rounds as lists of leaps."""
    told = [leap for leap in leaps_by_hand(watcher) if leap[0] is not None]
    starts = sorted({leap[0] for leap in told})
    found = []
    for many in range(1, len(starts) + 1):
        for order in itertools.permutations(starts, many):
            if order[0] != min(order):
                continue
            parts = [[leap for leap in told if leap[0] == one and leap[1][-1] == other]
                     for one, other in zip(order, order[1:] + order[:1])]
            found += [list(way) for way in itertools.product(*parts)]
    return found


def legs_of(way):
    return tuple(leg for _, leg, _, _ in way)


def time_by_hand(way):
    """The least, the greatest, and how many arrows."""
    lows, highs = [leap[2] for leap in way], [leap[3] for leap in way]
    low = ("from" if all(word == "from" for word, _ in lows) else "above", sum(n for _, n in lows))
    high = None
    if None not in highs:
        high = ("upto" if all(word == "upto" for word, _ in highs) else "below", sum(n for _, n in highs))
    return (low, high, sum(len(leap[1]) for leap in way))


def means(way):
    """The mean and the slow mean of a round, None for none."""
    low, high, many = time_by_hand(way)
    return Fraction(low[1], many), high and Fraction(high[1], many)


def random_fresh(rolls, **told):
    """A watcher made up each circle of which has a fresh arrow."""
    while True:
        options = dict(clocks=rolls.randint(1, 3), places=rolls.randint(1, 4), arrows=rolls.randint(3, 7), cuts=2, most=4,
                       limits=0.1, unseen=0.2)
        watcher = random_watcher(rolls, **dict(options, **told))
        arrows = [arrow if rolls.random() < 0.5 else arrow[:3] + (tuple(watcher.clocks()), arrow[4]) for arrow in watcher.arrows()]
        watcher = Watcher(watcher.clocks(), {place: watcher.limit(place) for place in watcher.places()}, arrows, watcher.ends())
        fresh = fresh_ones(watcher)
        if len(fresh) <= 4 and all(set(circle) & set(fresh) for circle in circles(watcher)):
            return watcher


def random_round(rolls):
    """A watcher with rounds, and these by hand."""
    while True:
        watcher = random_fresh(rolls)
        rounds = rounds_by_hand(watcher)
        if rounds:
            return watcher, rounds


OF_ONE = [leaps, fastest, slowest]
OF_THING = [is_round, round_time, faster, slower, fast_heights, slow_heights]
OF_MORE = [laps, are_fast_heights, are_slow_heights]


class ExampleTest(unittest.TestCase):
    def test_the_example(self):
        watcher = doors()
        self.assertEqual(leaps(watcher), [(None, (0,), ("from", 2), None), (0, (1, 0), ("from", 2), None)])
        self.assertIs(is_round(watcher, ((1, 0),)), True)
        self.assertEqual(fastest(watcher), ((1, 1), True, ((1, 0),)))
        self.assertEqual(slowest(watcher), (None, False, ((1, 0),)))

    def test_by_name_and_as_lists(self):
        watcher = as_told(doors())
        self.assertEqual(leaps(watcher=watcher), leaps(doors()))
        self.assertIs(is_round(watcher=watcher, thing=[[1, 0]]), True)
        self.assertEqual(round_time(watcher=watcher, thing=[[1, 0]]), (("from", 2), None, 2))
        self.assertEqual(fastest(watcher=watcher), fastest(doors()))
        self.assertEqual(slowest(watcher=watcher), slowest(doors()))
        self.assertEqual(faster(watcher=watcher, mean=[3, 2]), ((1, 0),))
        self.assertEqual(slower(watcher=watcher, mean=[10 ** 12, 1]), ((1, 0),))
        self.assertEqual(len(laps(watcher=watcher, thing=[[1, 0]], many=20)), 41)

    def test_several_rounds(self):
        watcher = timed_doors()
        self.assertEqual(len(leaps(watcher)), 12)
        self.assertEqual(round_time(watcher, ((0,),)), (("from", 2), ("upto", 3), 1))
        self.assertEqual(round_time(watcher, ((1,),)), (("above", 1), ("below", 4), 1))
        self.assertEqual(round_time(watcher, ((2, 3),)), (("from", 5), ("upto", 5), 2))
        self.assertEqual(round_time(watcher, ((1,), (2, 3), (0,))), (("above", 8), ("below", 12), 4))
        self.assertEqual(fastest(watcher), ((1, 1), False, ((1,),)))
        self.assertEqual(slowest(watcher), ((4, 1), False, ((1,),)))
        self.assertEqual(faster(watcher, (1, 1)), None)
        self.assertEqual(faster(watcher, (11, 10)), ((1,),))
        self.assertEqual((slower(watcher, (4, 1)), slower(watcher, (39, 10))), (None, ((1,),)))

    def test_means_that_are_taken_stand_ahead(self):
        watcher = Watcher(["x"], {"p": {}}, [("p", "a", [("x", "above", 2), ("x", "below", 5)], ["x"], "p"),
                                            ("p", "b", [("x", "from", 2), ("x", "upto", 5)], ["x"], "p")], [])
        self.assertEqual(fastest(watcher), ((2, 1), True, ((1,),)))
        self.assertEqual(slowest(watcher), ((5, 1), True, ((1,),)))


class LeapsTest(unittest.TestCase):
    def test_leaps_against_tables(self):
        rolls = random.Random(1)
        many = Counter()
        for _ in range(250):
            watcher = random_fresh(rolls)
            wanted = leaps_by_hand(watcher)
            self.assertEqual(leaps(watcher), wanted)
            many[min(len(wanted), 5)] += 1
        self.assertGreater(len(many), 4)

    def test_first_circles_without_fresh_arrows(self):
        rolls = random.Random(2)
        lengths = Counter()
        for _ in range(200):
            watcher = random_watcher(rolls, clocks=rolls.randint(1, 2), places=4, arrows=6, unseen=0.3, most=2)
            fresh = set(fresh_ones(watcher))
            bare = [circle for circle in circles(watcher) if not set(circle) & fresh]
            if not bare:
                self.assertIsNone(error_of(lambda: leaps(watcher)))
                continue
            lengths[len(bare[0])] += 1
            for function in OF_ONE:
                self.assertEqual(fault(lambda: function(watcher)), ("NotFresh", bare[0]))
            for function in OF_THING:
                self.assertEqual(fault(lambda: function(watcher, None)), ("NotFresh", bare[0]))
            for function in OF_MORE:
                self.assertEqual(fault(lambda: function(watcher, None, None)), ("NotFresh", bare[0]))
        self.assertGreater(len(lengths), 2)

    def test_watchers_without_clocks(self):
        watcher = Watcher([], {"p": {}, "q": {}}, [("p", "a", [], [], "q"), ("q", None, [], [], "p")], [])
        self.assertEqual(leaps(watcher), [(None, (0,), ("from", 0), None), (0, (1,), ("from", 0), None), (1, (0,), ("from", 0), None)])
        self.assertEqual(fastest(watcher), ((0, 1), True, ((1,), (0,))))
        self.assertIs(is_round(watcher, ((0,), (1,))), False)

    def test_a_first_place_that_is_never_held(self):
        watcher = Watcher(["x"], {"p": {"x": ("below", 0)}}, [("p", "a", [], ["x"], "p")], [])
        self.assertEqual((leaps(watcher), fastest(watcher), slowest(watcher)), ([], None, None))
        self.assertEqual((fast_heights(watcher, (1, 1)), slow_heights(watcher, (1, 1))), ({}, {}))
        self.assertEqual((faster(watcher, (1, 1)), slower(watcher, (1, 1))), (None, None))

    def test_no_arrows(self):
        watcher = Watcher(["x"], {"p": {}}, [], [])
        self.assertEqual((leaps(watcher), fastest(watcher), slowest(watcher)), ([], None, None))

    def test_a_leg_that_never_goes(self):
        watcher = Watcher(["x", "y"], {"p": {"x": ("upto", 2)}, "q": {}}, [
            ("p", "a", [], [], "q"), ("q", "b", [("x", "from", 3), ("y", "upto", 2)], ["x", "y"], "p"),
            ("p", "c", [("x", "above", 2)], ["x", "y"], "p")], [])
        self.assertEqual(leaps(watcher), [])


class RoundTest(unittest.TestCase):
    def test_rounds_and_their_times(self):
        rolls = random.Random(3)
        for _ in range(80):
            watcher, rounds = random_round(rolls)
            for way in rounds:
                self.assertIs(is_round(watcher, legs_of(way)), True)
                self.assertIs(is_round(watcher, as_lists(legs_of(way))), True)
                self.assertEqual(round_time(watcher, legs_of(way)), time_by_hand(way))
            known = {legs_of(way) for way in rounds}
            told = [leap[1] for leap in leaps(watcher)]
            for _ in range(20):
                thing = tuple(rolls.choice(told) for _ in range(rolls.randint(1, 3)))
                self.assertIs(is_round(watcher, thing), thing in known)
                if thing not in known:
                    self.assertEqual(fault(lambda: round_time(watcher, thing)), ("NoRound", thing))

    def test_no_rounds(self):
        watcher = timed_doors()
        wrong = strange_objects() + [((0,), (0,)), ((1,), (0,), (0,)), (0,), ((0, 1),), ((1,), (2, 3)), ((True,),), (("0",),),
                                     [[0], None], [[]], [[0], []], ((-1,),), ((9,),), "0", {0: 0}, ((0.0,),)]
        for thing in wrong:
            self.assertIs(is_round(watcher, thing), False)
            for work in (lambda: round_time(watcher, thing), lambda: laps(watcher, thing, None)):
                error = error_of(work)
                self.assertEqual((error.__class__.__name__, error.thing is thing), ("NoRound", True))

    def test_the_least_start_stands_first(self):
        watcher = timed_doors()
        self.assertIs(is_round(watcher, ((1,), (0,))), True)
        self.assertIs(is_round(watcher, ((0,), (1,))), False)

    def test_fastest_and_slowest_against_all_rounds(self):
        rolls = random.Random(4)
        seen = Counter()
        for _ in range(200):
            watcher, rounds = random_round(rolls)
            least = min(means(way)[0] for way in rounds)
            best = [way for way in rounds if means(way)[0] == least]
            taken = [way for way in best if time_by_hand(way)[0][0] == "from"]
            mean, is_taken, told = fastest(watcher)
            self.assertEqual((mean, is_taken), (pair_of(least), bool(taken)))
            self.assertIn(told, [legs_of(way) for way in taken or best])
            seen["fast", is_taken] += 1
            self.check_slowest(watcher, rounds, seen)
        self.assertEqual(len(seen), 5)

    def check_slowest(self, watcher, rounds, seen):
        endless = [way for way in rounds if means(way)[1] is None]
        mean, is_taken, told = slowest(watcher)
        if endless:
            self.assertEqual((mean, is_taken), (None, False))
            self.assertIn(told, [legs_of(way) for way in endless])
            seen["endless"] += 1
            return
        most = max(means(way)[1] for way in rounds)
        best = [way for way in rounds if means(way)[1] == most]
        taken = [way for way in best if time_by_hand(way)[1][0] == "upto"]
        self.assertEqual((mean, is_taken), (pair_of(most), bool(taken)))
        self.assertIn(told, [legs_of(way) for way in taken or best])
        seen["slow", is_taken] += 1

    def test_faster_and_slower(self):
        rolls = random.Random(5)
        seen = Counter()
        for _ in range(200):
            watcher, rounds = random_round(rolls)
            mean = Fraction(rolls.randint(-3, 24), rolls.randint(1, 6))
            passed = (3 * mean.numerator, 3 * mean.denominator)
            quick = [legs_of(way) for way in rounds if means(way)[0] < mean]
            slow = [legs_of(way) for way in rounds if means(way)[1] is None or means(way)[1] > mean]
            for function, wanted in ((faster, quick), (slower, slow)):
                told = function(watcher, passed)
                self.assertIn(told, wanted or [None])
                self.assertEqual(function(watcher, list(pair_of(mean))), told)
                seen[function, told is None] += 1
        self.assertEqual(len(seen), 4)


class LapsTest(unittest.TestCase):
    def test_laps(self):
        rolls = random.Random(6)
        words = Counter()
        for _ in range(120):
            watcher, rounds = random_round(rolls)
            way = rolls.choice(rounds)
            many = rolls.randint(1, 4)
            run = laps(watcher, as_lists(legs_of(way)), many)
            self.assertTrue(is_run(watcher, run))
            self.assertEqual(run, laps(as_told(watcher), legs_of(way), many))
            (word, n), _, arrows = time_by_hand(way)
            numbers = [number for leg in legs_of(way) for number in leg]
            self.assertEqual([number for number, _ in run[-many * arrows:]], numbers * many)
            ahead = run[:len(run) - many * arrows]
            self.assertEqual(ahead[-1][0], way[0][0])
            self.check_ahead(watcher, [number for number, _ in ahead])
            for at in range(many):
                begin, end = len(ahead) - 1 + at * arrows, len(ahead) - 1 + (at + 1) * arrows
                took = fraction(run[end][1]) - fraction(run[begin][1])
                self.assertTrue(took == n if word == "from" else n < took < n + 1)
            words[word] += 1
        self.assertGreater(min(words["from"], words["above"]), 15)

    def check_ahead(self, watcher, numbers):
        """Whether arrows are legs of leaps one behind another, from the begin on."""
        fresh, start = fresh_ones(watcher), None
        told = [(leap[0], leap[1]) for leap in leaps(watcher)]
        while numbers:
            cut = [at for at, number in enumerate(numbers) if number in fresh][0] + 1
            leg, numbers = tuple(numbers[:cut]), numbers[cut:]
            self.assertIn((start, leg), told)
            start = leg[-1]

    def test_how_many(self):
        watcher = doors()
        for many in (1, 2, 20):
            self.assertEqual(laps(watcher, ((1, 0),), many)[-1], (0, (2 * many + 2, 1)))
        for thing in strange_objects() + [0, -1, (1, 1)]:
            if isinstance(thing, int) and not isinstance(thing, bool) and thing > 0:
                continue
            error = error_of(lambda: laps(watcher, ((1, 0),), thing))
            self.assertEqual((error.__class__.__name__, error.thing is thing), ("BadNumber", True))

    def test_runs_take_no_less_than_the_mean_and_no_more_than_the_slow_one(self):
        # A leap that is none of a round is gone once at most; of the others heights show what they can take together.
        rolls = random.Random(8)
        for _ in range(60):
            watcher, rounds = random_round(rolls)
            told = leaps(watcher)
            mean, slow = fastest(watcher)[0], slowest(watcher)[0]
            heights = fast_heights(watcher, mean)
            tall = max(abs(fraction(height)) for height in heights.values())
            number = 2 * tall * (len(told) + 1) + sum(len(leap[1]) for leap in told) * (fraction(mean) + fraction(slow or (0, 1)))
            is_endless = any(leap[3] is None for leap in told)
            if slow is not None:
                tall = max(abs(fraction(height)) for height in slow_heights(watcher, slow).values())
                number += 2 * tall * (len(told) + 1) + sum(leap[3][1] for leap in told if leap[3] is not None)
            start, arrows, least, most = None, 0, 0, 0
            for _ in range(40):
                ahead = [leap for leap in told if leap[0] == start]
                if not ahead:
                    break
                leap = rolls.choice(ahead)
                start, arrows, least = leap[1][-1], arrows + len(leap[1]), least + leap[2][1]
                self.assertGreaterEqual(least, arrows * fraction(mean) - number)
                if not is_endless:
                    most += leap[3][1]
                    self.assertLessEqual(most, arrows * fraction(slow) + number)

    def test_whole_rounds_come_near_the_mean(self):
        rolls = random.Random(7)
        for _ in range(40):
            watcher, rounds = random_round(rolls)
            mean, _, told = fastest(watcher)
            run = laps(watcher, told, 5)
            arrows = sum(len(leg) for leg in told)
            ahead = len(run) - 5 * arrows
            self.assertLessEqual(fraction(run[-1][1]) - fraction(run[ahead - 1][1]), 5 * arrows * fraction(mean) + 5)
            self.assertGreaterEqual(fraction(run[-1][1]) - fraction(run[ahead - 1][1]), 5 * arrows * fraction(mean))


class MeanErrorsTest(unittest.TestCase):
    def test_any_objects(self):
        for thing in strange_objects() + [1, (1, 0), (1, -1), (1.0, 1), (True, 1), ("1", 1), (1, 1, 1)]:
            is_mean = isinstance(thing, (list, tuple)) and len(thing) == 2 and all(type(part) is int for part in thing)
            if is_mean and thing[1] > 0:
                continue
            for work in (lambda: faster(doors(), thing), lambda: slower(doors(), thing)):
                error = error_of(work)
                self.assertEqual((error.__class__.__name__, error.mean is thing), ("BadMean", True))

    def test_what_callers_change_changes_nothing(self):
        watcher = doors()
        leaps(watcher).clear()
        laps(watcher, ((1, 0),), 1).clear()
        self.assertEqual(len(leaps(watcher)), 2)


class SoonTest(unittest.TestCase):
    def test_as_great_as_the_limits_let(self):
        words = [("upto", 9), ("from", 1), ("above", 2), ("below", 12)]
        clocks = ["x", "y", "z"]
        arrows = [("p", "a", [("x", "from", at + 1), ("y", "upto", 12)], clocks, "q" if at % 2 else "r") for at in range(2)]
        arrows += [("q", "b", [("x",) + word], [], "s") for word in words[:2]] + [
            ("r", "b", [("y",) + word], ["x"], "t") for word in words[1:3]]
        arrows += [("s", "c", [("z", "below", 12)], clocks, "p"), ("t", "c", [("z", "above", 1)], clocks, "p"),
                   ("s", "d", [], [], "t"), ("t", None, [], ["y"], "u")]
        watcher = Watcher(clocks, {place: {} for place in "pqrstu"}, arrows, [])
        self.assertEqual((len(fresh_ones(watcher)), len(arrows)), (4, 10))
        self.assertLessEqual(len(leaps(watcher)), 24)
        round_told = fastest(watcher)[2]
        works = [lambda: leaps(watcher), lambda: fastest(watcher), lambda: slowest(watcher), lambda: laps(watcher, round_told, 20),
                 lambda: faster(watcher, (1, 2)), lambda: slower(watcher, (99, 2)), lambda: fast_heights(watcher, (1, 3)),
                 lambda: slow_heights(watcher, (99, 7))]
        for work in works:
            begin = time.monotonic()
            work()
            self.assertLess(time.monotonic() - begin, 1)


if __name__ == "__main__":
    unittest.main()
