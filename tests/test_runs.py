"""[22], [23] and [24], and the example of [27] as far as it speaks of runs."""

import random
import time
import unittest
from fractions import Fraction
from itertools import product

from rowsintime.runs import ended, heard, is_run, runs, takes, unsure, worths
from rowsintime.watchers import Watcher
from tests.helper import (
    can_both_go, error_of, exact_run, fault, fraction, keeps_cut, keeps_limit, pair_of, random_watcher, stands_behind,
    strange_objects)


def doors():
    """The example of [27]."""
    return Watcher(["x"], {"shut": {}, "open": {"x": ("upto", 3)}},
                   [("shut", "door", [], ["x"], "open"), ("open", "bell", [("x", "above", 1)], [], "shut")], ["shut"])


def one_place(clocks, arrows, limit=None):
    """A watcher of one place p, at which each arrow leads back; told by signal, cuts and what it begins."""
    return Watcher(clocks, {"p": limit or {}}, [("p", signal, cuts, begun, "p") for signal, cuts, begun in arrows], ["p"])


def random_steps(rolls, watcher, most=3):
    """Pairs of arrows and times made up, some of which are runs."""
    steps, place, now = [], watcher.places()[0], Fraction(0)
    for _ in range(rolls.randint(0, 5)):
        numbers = [at for at, arrow in enumerate(watcher.arrows()) if arrow[0] == place or rolls.random() < 0.05]
        if not numbers:
            break
        number = rolls.choice(numbers)
        now += rolls.choice([0, 0, Fraction(1, 2), Fraction(1, 3), 1, Fraction(rolls.randint(0, 4 * most), 4)])
        if rolls.random() < 0.03:
            now -= 1
        steps.append((number, now))
        place = watcher.arrows()[number][4]
    return steps


def rough(steps, by=1):
    """Steps as a caller may pass them: times not in lowest terms, lists for tuples."""
    return [[number, (time.numerator * by, time.denominator * by)] for number, time in steps]


class IsRunTest(unittest.TestCase):
    def test_the_example(self):
        self.assertIs(is_run(doors(), [(0, (5, 2)), (1, (11, 2))]), True)
        self.assertIs(is_run(doors(), [(0, (5, 2)), (1, (7, 2))]), False)
        self.assertIs(is_run(doors(), ((0, [5, 2]), [1, (22, 4)])), True)
        self.assertIs(is_run(doors(), [(0, (5, 2)), (1, (45, 8))]), False)

    def test_numbers_and_places(self):
        for run in ([], [(0, (0, 1))], [(0, (0, 1)), (1, (2, 1)), (0, (2, 1))]):
            self.assertIs(is_run(doors(), run), True)
        for run in ([(1, (2, 1))], [(0, (0, 1)), (0, (1, 1))], [(2, (0, 1))], [(-1, (0, 1))], [(-2, (0, 1))],
                    [(True, (0, 1))], [(False, (0, 1))], [(0, (-1, 1))], [(0, (0, 1)), (1, (2, 1)), (0, (1, 1))]):
            self.assertIs(is_run(doors(), run), False)

    def test_times_do_not_fall(self):
        watcher = one_place([], [("a", [], [])])
        self.assertIs(is_run(watcher, [(0, (1, 2)), (0, (2, 4)), (0, (3, 6))]), True)
        self.assertIs(is_run(watcher, [(0, (1, 2)), (0, (3, 7))]), False)

    def test_no_run_where_the_first_limit_does_not_hold_at_zero(self):
        never = Watcher(["x", "y"], {"p": {"y": ("below", 0)}, "q": {}}, [("p", "a", [], ["x", "y"], "q")], ["p"])
        for run in ([], [(0, (0, 1))]):
            self.assertIs(is_run(never, run), False)
        once = Watcher(["x", "y"], {"p": {"y": ("upto", 0)}, "q": {}}, [("p", "a", [], ["x", "y"], "q")], ["p"])
        self.assertIs(is_run(once, []), True)
        self.assertIs(is_run(once, [(0, (0, 1))]), True)
        self.assertIs(is_run(once, [(0, (1, 100))]), False)

    def test_limits_of_the_place_behind(self):
        for limit, is_let in ((("upto", 0), False), (("below", 1), False), (("upto", 1), True), (("below", 2), True)):
            watcher = Watcher(["x"], {"p": {}, "q": {"x": limit}}, [("p", "a", [], [], "q")], [])
            self.assertIs(is_run(watcher, [(0, (1, 1))]), is_let)
            begun = Watcher(["x"], {"p": {}, "q": {"x": limit}}, [("p", "a", [], ["x"], "q")], [])
            self.assertIs(is_run(begun, [(0, (1, 1))]), True)
        never = Watcher(["x"], {"p": {}, "q": {"x": ("below", 0)}}, [("p", "a", [], ["x"], "q")], [])
        self.assertIs(is_run(never, [(0, (1, 1))]), False)

    def test_cuts_ask_of_worths_ahead_of_the_arrow(self):
        watcher = one_place(["x"], [("a", [("x", "from", 2)], ["x"])])
        self.assertIs(is_run(watcher, [(0, (2, 1)), (0, (4, 1))]), True)
        self.assertIs(is_run(watcher, [(0, (2, 1)), (0, (2, 1))]), False)
        self.assertIs(is_run(watcher, [(0, (2, 1)), (0, (7, 2))]), False)

    def test_each_word(self):
        times = [Fraction(half, 2) for half in range(8)]
        for word, kept in (("from", [4, 5, 6, 7]), ("above", [5, 6, 7]), ("upto", [0, 1, 2, 3, 4]), ("below", [0, 1, 2, 3])):
            watcher = one_place(["x"], [("a", [("x", word, 2)], [])])
            self.assertEqual([half for half in range(8) if is_run(watcher, rough([(0, times[half])]))], kept)

    def test_any_objects(self):
        for thing in strange_objects():
            self.assertIs(is_run(doors(), thing), thing in ([], ()))
            self.assertIs(is_run(doors(), [thing]), False)
            self.assertIs(is_run(doors(), [(thing, (0, 1))]), thing == 0 and not isinstance(thing, bool))
            self.assertIs(is_run(doors(), [(0, thing)]), repr(thing) in ("(0, 1)", "[1, 2]"))

    def test_many_runs(self):
        rolls = random.Random(22)
        found = 0
        for _ in range(400):
            watcher = random_watcher(rolls, unseen=0.3)
            for _ in range(6):
                steps = random_steps(rolls, watcher)
                stand = stands_behind(watcher, steps)
                run = rough(steps, rolls.randint(1, 3))
                self.assertIs(is_run(watcher, run), stand is not None)
                if stand is None:
                    self.assertIs(error_of(lambda: ended(watcher, run)).thing, run)
                    continue
                found += len(steps) > 1
                self.assertEqual(ended(watcher, run), stand[0])
                told = worths(watcher, run)
                self.assertEqual(list(told), watcher.clocks())
                self.assertEqual(told, {clock: pair_of(worth) for clock, worth in stand[1].items()})
                signals = [(watcher.arrows()[number][1], pair_of(now)) for number, now in steps]
                self.assertEqual(heard(watcher, run), [pair for pair in signals if pair[0] is not None])
        self.assertGreater(found, 100)


class BehindRunsTest(unittest.TestCase):
    def test_behind_no_arrow(self):
        self.assertEqual(ended(doors(), []), "shut")
        self.assertEqual(worths(doors(), ()), {"x": (0, 1)})
        self.assertEqual(heard(doors(), []), [])

    def test_behind_arrows(self):
        run = [(0, (10, 4)), (1, [22, 4])]
        self.assertEqual(ended(doors(), run), "shut")
        self.assertEqual(worths(doors(), run), {"x": (3, 1)})
        self.assertEqual(heard(doors(), run), [("door", (5, 2)), ("bell", (11, 2))])
        self.assertEqual(repr(heard(doors(), run)), "[('door', (5, 2)), ('bell', (11, 2))]")
        self.assertEqual(run, [(0, (10, 4)), (1, [22, 4])])

    def test_unseen_arrows_are_not_heard(self):
        watcher = one_place(["x", "y"], [(None, [], ["y"]), ("a", [], [])])
        run = [(0, (1, 2)), (1, (1, 1)), (0, (3, 1))]
        self.assertEqual(heard(watcher, run), [("a", (1, 1))])
        self.assertEqual(worths(watcher, run), {"x": (3, 1), "y": (0, 1)})
        self.assertEqual(worths(watcher, run[:2]), {"x": (1, 1), "y": (1, 2)})

    def test_bad_runs(self):
        for work in (ended, worths, heard):
            for thing in strange_objects() + [[(1, (2, 1))], [(0, (0, 1)), None]]:
                if thing in ([], ()):
                    continue
                error = error_of(lambda: work(doors(), thing))
                self.assertEqual(error.__class__.__name__, "BadRun")
                self.assertIs(error.thing, thing)
        never = Watcher(["x"], {"p": {"x": ("below", 0)}}, [], [])
        self.assertEqual(fault(lambda: ended(never, [])), ("BadRun", []))

    def test_by_name(self):
        self.assertEqual(ended(run=[], watcher=doors()), "shut")
        self.assertEqual(worths(run=[], watcher=doors()), {"x": (0, 1)})
        self.assertEqual(heard(run=[], watcher=doors()), [])
        self.assertIs(is_run(thing=[], watcher=doors()), True)


class RunsTest(unittest.TestCase):
    def test_the_example(self):
        self.assertEqual(runs(doors(), [("door", (5, 2)), ("bell", (11, 2))]), [(0, 1)])
        self.assertEqual(runs(doors(), [("door", (5, 2)), ("bell", (7, 2))]), [])
        self.assertIs(takes(doors(), [["door", [5, 2]], ["bell", (11, 2)]]), True)
        self.assertIs(takes(doors(), [("door", (5, 2))]), False)
        self.assertEqual(runs(doors(), [("door", (5, 2))]), [(0,)])

    def test_the_empty_row(self):
        self.assertEqual(runs(doors(), []), [()])
        self.assertIs(takes(doors(), ()), True)
        never = Watcher(["x"], {"p": {"x": ("below", 0)}}, [], ["p"])
        self.assertEqual(runs(never, []), [])
        self.assertIs(takes(never, []), False)

    def test_in_the_order_of_choices(self):
        watcher = Watcher([], {"p": {}, "q": {}}, [("p", "a", [], [], "q"), ("q", "a", [], [], "p"), ("p", "a", [], [], "p"),
                                                   ("p", "b", [], [], "p")], ["q"])
        row = [("a", (0, 1)), ("a", (0, 1)), ("a", (1, 1))]
        self.assertEqual(runs(watcher, row), [(0, 1, 0), (0, 1, 2), (2, 0, 1), (2, 2, 0), (2, 2, 2)])
        self.assertIs(takes(watcher, row), True)

    def test_signals_that_the_watcher_does_not_have(self):
        self.assertEqual(runs(doors(), [("door", (0, 1)), ("lamp", (1, 1))]), [])
        self.assertIs(takes(doors(), [("lamp", (1, 1))]), False)

    def test_unseen_ahead_of_all(self):
        watcher = one_place([], [("a", [], []), (None, [], []), (None, [], [])])
        for work in (runs, takes):
            self.assertEqual(fault(lambda: work(watcher, None)), ("Unseen", 1))
            self.assertEqual(fault(lambda: work(watcher, [])), ("Unseen", 1))

    def test_bad_rows(self):
        for work in (runs, takes):
            for thing in strange_objects():
                expected = None if thing in ([], ()) else ("BadRow", 0)
                self.assertEqual(fault(lambda: work(doors(), thing)), expected)
                row = [("door", (2, 2)), thing, ("door", (0, 1))]
                self.assertEqual(fault(lambda: work(doors(), row)), ("BadRow", 1))
                is_time = repr(thing) in ("(0, 1)", "[1, 2]")
                self.assertEqual(fault(lambda: work(doors(), [("bell", thing)])), None if is_time else ("BadRow", 0))
                expected = None if thing in ("a", "b", "upto") else ("BadRow", 0)
                self.assertEqual(fault(lambda: work(doors(), [(thing, (0, 1))])), expected)
            self.assertEqual(fault(lambda: work(doors(), [("a", (1, 2)), ("b", (3, 6)), ("a", (1, 3)), 7])), ("BadRow", 2))
            self.assertEqual(fault(lambda: work(doors(), [("a", (-1, 2))])), ("BadRow", 0))
            self.assertEqual(fault(lambda: work(doors(), [("a", (1, 2), 3)])), ("BadRow", 0))

    def test_all_tuples_tried(self):
        rolls = random.Random(23)
        many = 0
        for _ in range(600):
            watcher = random_watcher(rolls, arrows=5, cuts=1, limits=0.2)
            now, row = Fraction(0), []
            for _ in range(rolls.randint(0, 3)):
                now += rolls.choice([0, Fraction(1, 2), 1, Fraction(4, 3)])
                row.append((rolls.choice("ab"), pair_of(now)))
            expected, is_taken = [], False
            for way in product(range(5), repeat=len(row)):
                signals = [watcher.arrows()[number][1] for number in way]
                stand = stands_behind(watcher, [(number, fraction(pair[1])) for number, pair in zip(way, row)])
                if signals == [signal for signal, _ in row] and stand is not None:
                    expected.append(way)
                    is_taken = is_taken or stand[0] in watcher.ends()
            many += len(expected) > 1
            self.assertEqual(runs(watcher, row), expected)
            self.assertIs(takes(watcher, row), is_taken)
        self.assertGreater(many, 20)

    def test_soon_though_very_many_ways_begin(self):
        arrows = [("p", "a", [], [], "p")] * 6 + [("p", "z", [], [], "q")]
        watcher = Watcher(["x", "y", "z"], {"p": {}, "q": {}}, arrows, ["q"])
        row = [("a", (at, 12)) for at in range(7)]
        begin = time.process_time()
        self.assertEqual(runs(watcher, row + [("b", (1, 1))]), [])
        self.assertIs(takes(watcher, row + [("z", (1, 1))]), True)
        self.assertIs(takes(watcher, row + [("a", (1, 1))]), False)
        self.assertLess(time.process_time() - begin, 1)

    def test_what_is_passed_is_not_changed(self):
        row = [["door", [5, 2]], ("bell", (11, 2))]
        runs(doors(), row).append(3)
        self.assertEqual(row, [["door", [5, 2]], ("bell", (11, 2))])
        self.assertEqual(runs(row=row, watcher=doors()), [(0, 1)])
        self.assertIs(takes(row=row, watcher=doors()), True)


class UnsureTest(unittest.TestCase):
    def check_worths(self, watcher, found):
        """Whether the worths that are told keep the limits and both cuts."""
        (i, j), told = found
        self.assertEqual(list(told), watcher.clocks())
        exact = {clock: fraction(pair) for clock, pair in told.items()}
        self.assertEqual({clock: pair_of(worth) for clock, worth in exact.items()}, told)
        arrows = watcher.arrows()
        self.assertEqual(arrows[i][:2], arrows[j][:2])
        self.assertTrue(all(worth >= 0 for worth in exact.values()))
        self.assertTrue(keeps_limit(watcher, arrows[i][0], exact))
        self.assertTrue(all(keeps_cut(cut, exact) for cut in arrows[i][2] + arrows[j][2]))

    def test_the_example_is_sure(self):
        self.assertIsNone(unsure(doors()))
        self.assertIsNone(unsure(Watcher([], {"p": {}}, [], [])))

    def test_the_fact(self):
        for cuts, is_met in (((("x", "above", 2), ("x", "below", 3)), True), ((("x", "above", 2), ("x", "upto", 2)), False),
                             ((("x", "from", 2), ("x", "upto", 2)), True), ((("x", "from", 2), ("x", "below", 2)), False),
                             ((("x", "from", 3), ("x", "upto", 2)), False), ((("x", "from", 0), ("x", "below", 0)), False),
                             ((("x", "upto", 0), ("x", "upto", 9)), True), ((("x", "above", 0), ("x", "upto", 0)), False)):
            watcher = one_place(["x"], [("a", [cuts[0]], []), ("a", [cuts[1]], [])])
            self.assertIs(unsure(watcher) is not None, is_met)
            if is_met:
                self.assertEqual(unsure(watcher)[0], (0, 1))
                self.check_worths(watcher, unsure(watcher))

    def test_limits_of_the_place_count_those_behind_do_not(self):
        arrows = [("p", "a", [("x", "above", 2)], [], "q"), ("p", "a", [("x", "from", 3)], [], "r")]
        limits = {"p": {"x": ("upto", 2)}, "q": {}, "r": {}}
        self.assertIsNone(unsure(Watcher(["x"], limits, arrows, [])))
        limits = {"p": {}, "q": {"x": ("upto", 1)}, "r": {"x": ("below", 0)}}
        self.assertEqual(unsure(Watcher(["x"], limits, arrows, []))[0], (0, 1))

    def test_worths_that_never_come_count(self):
        watcher = one_place(["x", "y"], [("a", [("x", "above", 5), ("y", "upto", 1)], []), ("a", [("x", "above", 5)], [])])
        self.assertEqual(unsure(watcher)[0], (0, 1))
        self.check_worths(watcher, unsure(watcher))

    def test_an_arrow_that_never_goes_is_with_none(self):
        watcher = one_place(["x"], [("a", [("x", "above", 5), ("x", "below", 5)], []), ("a", [], [])])
        self.assertIsNone(unsure(watcher))

    def test_other_places_and_signals(self):
        self.assertIsNone(unsure(Watcher([], {"p": {}, "q": {}}, [("p", "a", [], [], "q"), ("p", "b", [], [], "q"),
                                                                 ("q", "a", [], [], "q")], [])))

    def test_the_first_pair(self):
        arrows = [("a", [("x", "upto", 1)], []), ("b", [], []), ("a", [("x", "above", 3)], []), ("b", [], []),
                  ("a", [("x", "above", 1), ("x", "below", 4)], []), ("a", [("x", "upto", 0)], [])]
        watcher = one_place(["x"], arrows)
        self.assertEqual(unsure(watcher)[0], (0, 5))
        self.assertEqual(unsure(one_place(["x"], arrows[:5]))[0], (1, 3))
        self.assertEqual(unsure(one_place(["x"], arrows[:3] + arrows[4:5])), ((2, 3), {"x": (7, 2)}))

    def test_unseen(self):
        watcher = one_place([], [("a", [], []), ("a", [], []), (None, [], [])])
        self.assertEqual(fault(lambda: unsure(watcher)), ("Unseen", 2))
        self.assertEqual(fault(lambda: unsure(watcher=watcher)), ("Unseen", 2))

    def test_many_watchers(self):
        rolls = random.Random(24)
        found = {True: 0, False: 0}
        for _ in range(500):
            watcher = random_watcher(rolls, arrows=rolls.randint(0, 5), cuts=3)
            limits = {place: watcher.limit(place) for place in watcher.places()}
            arrows = watcher.arrows()
            pairs = [(i, j) for i in range(len(arrows)) for j in range(i + 1, len(arrows))
                     if can_both_go(watcher.clocks(), limits, arrows[i], arrows[j])]
            told = unsure(watcher)
            found[told is None] += 1
            self.assertEqual(None if told is None else told[0], pairs[0] if pairs else None)
            if told is not None:
                self.check_worths(watcher, told)
                self.assertEqual(told, unsure(watcher))
        self.assertGreater(min(found.values()), 50)

    def test_a_sure_watcher_has_at_most_one_run_with_each_row(self):
        rolls = random.Random(25)
        most = 0
        for _ in range(300):
            watcher = random_watcher(rolls, arrows=4, cuts=2)
            halves = sorted(rolls.randint(0, 6) for _ in range(2))
            row = [(rolls.choice("ab"), (half, 2)) for half in halves]
            if unsure(watcher) is None:
                self.assertLessEqual(len(runs(watcher, row)), 1)
            else:
                most = max(most, len(runs(watcher, row)))
        self.assertGreater(most, 1)


if __name__ == "__main__":
    unittest.main()
