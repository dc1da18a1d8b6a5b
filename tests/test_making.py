"""[44] and [45], and [49] as far as it speaks of watchers that are made."""

import random
import time
import unittest

from rowsintime.errors import BadSignals, Lacks
from rowsintime.going import Going
from rowsintime.making import both_tell, either_tell, less_tell, not_told
from rowsintime.rowscome import rows_of
from rowsintime.runs import ended, is_run, runs, takes, unsure
from rowsintime.telling import told_alike, told_within
from rowsintime.watchers import Watcher
from tests.helper import error_of, fault, pair_of, random_row, random_sure, slightly_changed, strange_objects
from tests.test_lots import doors


def up_to(word="upto", number=2, signal="a"):
    """The watchers of the example of [50]."""
    return Watcher(["x"], {"p": {}, "q": {}}, [("p", signal, [("x", word, number)], [], "q")], ["q"])


def bent():
    """A watcher with two arrows for one signal, and one unseen behind them."""
    return Watcher(["x"], {"p": {}}, [("p", "a", [], [], "p"), ("p", "b", [("x", "upto", 2)], [], "p"),
                                      ("p", "b", [("x", "from", 2)], [], "p")], [])


def unseen():
    return Watcher([], {"p": {}}, [("p", "a", [], [], "p"), ("p", None, [], [], "p"), ("p", "a", [], [], "p")], [])


def is_told(watcher, row):
    """What [44] tells of a timed row."""
    return any(ended(watcher, list(zip(numbers, [pair[1] for pair in row]))) in watcher.ends()
               for numbers in runs(watcher, row))


class NotToldTest(unittest.TestCase):
    def test_the_example(self):
        made = not_told(up_to(), ["a"])
        for row, expected in (([], True), ([("a", (2, 1))], False), ([("a", (0, 1))], False), ([("a", (9, 4))], True),
                              ([("a", (1, 1)), ("a", (1, 1))], True), ([("a", (5, 1)), ("a", (6, 1))], True),
                              ([("a", (1, 1))] * 3, True)):
            self.assertIs(takes(made, row), expected)
        self.assertEqual(made.signals(), ["a"])

    def test_more_signals(self):
        made = not_told(up_to(), ("lamp", "b", "a"))
        self.assertEqual(made.signals(), ["a", "b", "lamp"])
        for row, expected in (([], True), ([("lamp", (1, 1))], True), ([("a", (1, 1)), ("b", (1, 1))], True),
                              ([("a", (1, 1))], False)):
            self.assertIs(takes(made, row), expected)
        self.assertEqual(runs(made, [("bell", (1, 1))]), [])

    def test_without_signals(self):
        for ends, expected in (([], True), (["p"], False)):
            made = not_told(Watcher([], {"p": {}}, [], ends), [])
            self.assertEqual(made.signals(), [])
            self.assertEqual(runs(made, []), [()])
            self.assertIs(takes(made, []), expected)

    def test_a_first_place_that_cannot_be_held(self):
        watcher = Watcher(["x"], {"p": {"x": ("below", 0)}}, [("p", "a", [], ["x"], "p")], ["p"])
        made = not_told(watcher, ["a"])
        for row in ([], [("a", (0, 1))], [("a", (1, 1)), ("a", (3, 1))]):
            self.assertIs(takes(made, row), True)
            self.assertEqual(len(runs(made, row)), 1)

    def test_limits_become_cuts(self):
        watcher = Watcher(["x"], {"p": {"x": ("upto", 3)}, "q": {"x": ("below", 2)}}, [("p", "a", [], [], "q"),
                                                                                      ("q", "a", [], ["x"], "p")], ["q", "p"])
        made = not_told(watcher, ["a"])
        for place in made.places():
            self.assertEqual(made.limit(place), {})
        for times, expected in (([], False), ([(1, 1)], False), ([(2, 1)], True), ([(3, 2), (3, 2)], False),
                                ([(3, 2), (2, 1)], True), ([(3, 2), (3, 2), (7, 2)], True), ([(1, 2), (1, 1), (5, 2)], False)):
            self.assertIs(takes(made, [("a", time) for time in times]), expected)

    def test_bad_signals(self):
        for thing in strange_objects():
            if isinstance(thing, (list, tuple)) and len(set(map(repr, thing))) == len(thing):
                bad = [at for at, one in enumerate(thing) if not (isinstance(one, str) and one.isalpha() and one.islower())]
                expected = ("BadSignals", bad[0]) if bad else None if "a" in thing else ("Lacks", "a")
            else:
                expected = ("BadSignals", 0)
            self.assertEqual(fault(lambda: not_told(up_to(), thing)), expected)
        self.assertEqual(fault(lambda: not_told(up_to(), ["a", "b", "a", 3])), ("BadSignals", 2))
        self.assertIsInstance(error_of(lambda: not_told(up_to(), "a")), BadSignals)

    def test_signals_that_are_lacking(self):
        self.assertEqual(fault(lambda: not_told(doors(), [])), ("Lacks", "bell"))
        self.assertEqual(fault(lambda: not_told(doors(), ["lamp", "bell"])), ("Lacks", "door"))
        self.assertIsInstance(error_of(lambda: not_told(doors(), ["door"])), Lacks)

    def test_the_order_of_errors(self):
        self.assertEqual(fault(lambda: not_told(unseen(), None)), ("Unseen", 1))
        self.assertEqual(fault(lambda: not_told(bent(), None)), ("Unsure", 1, 2))
        self.assertEqual(fault(lambda: not_told(doors(), ["bell", 3])), ("BadSignals", 1))


class OfTwoTest(unittest.TestCase):
    def test_unlike_signals(self):
        one, other = up_to(), up_to("from", 1, "b")
        for work, told in ((both_tell, []), (either_tell, [[("a", (1, 1))], [("b", (1, 1))]]), (less_tell, [[("a", (1, 1))]])):
            made = work(one, other)
            self.assertEqual(made.signals(), ["a", "b"])
            for row in ([], [("a", (1, 1))], [("b", (1, 1))], [("a", (3, 1))], [("a", (1, 1)), ("b", (1, 1))]):
                self.assertIs(takes(made, row), row in told)
                self.assertEqual(len(runs(made, row)), 1)

    def test_clocks_and_places_of_one_name(self):
        one = Watcher(["x"], {"p": {}}, [("p", "a", [("x", "from", 2)], ["x"], "p"), ("p", "b", [], [], "p")], ["p"])
        other = Watcher(["x"], {"p": {}}, [("p", "b", [("x", "from", 3)], ["x"], "p"), ("p", "a", [], [], "p")], ["p"])
        made = both_tell(one, other)
        row = [("a", (2, 1)), ("b", (3, 1)), ("a", (4, 1)), ("b", (6, 1))]
        self.assertIs(takes(made, row), True)
        self.assertIs(takes(made, row[:3] + [("b", (11, 2))]), False)
        self.assertIs(takes(made, row[:2] + [("a", (7, 2))]), False)
        self.assertIs(takes(either_tell(one, other), row[:3] + [("b", (11, 2))]), True)
        self.assertIs(takes(less_tell(one, other), row[:3] + [("b", (11, 2))]), True)
        self.assertIs(takes(less_tell(other, one), row[:3] + [("b", (11, 2))]), False)

    def test_errors_of_the_one_ahead_of_those_of_the_other(self):
        for work in (both_tell, either_tell, less_tell):
            self.assertEqual(fault(lambda: work(unseen(), bent())), ("Unseen", 1))
            self.assertEqual(fault(lambda: work(bent(), unseen())), ("Unsure", 1, 2))
            self.assertEqual(fault(lambda: work(doors(), unseen())), ("Unseen", 1))
            self.assertEqual(fault(lambda: work(doors(), bent())), ("Unsure", 1, 2))

    def test_by_name(self):
        self.assertEqual(not_told(signals=["a"], watcher=up_to()), not_told(up_to(), ["a"]))
        for work in (both_tell, either_tell, less_tell):
            self.assertEqual(work(other=doors(), one=up_to()), work(up_to(), doors()))

    def test_a_watcher_with_itself(self):
        self.assertTrue(told_alike(both_tell(doors(), doors()), doors()))
        self.assertTrue(told_alike(either_tell(doors(), doors()), doors()))
        self.assertEqual(rows_of(less_tell(doors(), doors())).many(), 0)


class ManyTest(unittest.TestCase):
    def check_whole(self, made, signals):
        self.assertEqual(made.signals(), signals)
        self.assertIsNone(unsure(made))
        self.assertEqual([made.limit(place) for place in made.places()], [{} for _ in made.places()])

    def test_rows_made_up(self):
        rolls = random.Random(45)
        found = {}
        for _ in range(120):
            one = random_sure(rolls, clocks=rolls.choice([0, 1, 2]), places=3, arrows=7, cuts=2, most=2)
            if rolls.random() < 0.6:
                other = slightly_changed(rolls, one, 2)
            else:
                other = random_sure(rolls, clocks=1, places=2, arrows=5, cuts=2, most=2, signals="bc")
            signals = sorted(set(one.signals()) | set(other.signals()))
            more = sorted(signals + ["lamp"])
            made = [not_told(one, more), both_tell(one, other), either_tell(one, other), less_tell(one, other)]
            for at, watcher in enumerate(made):
                self.check_whole(watcher, signals if at else more)
            for _ in range(25):
                row = random_row(rolls, signals, rolls.randint(0, 4), 2)
                first, second = is_told(one, row), is_told(other, row)
                expected = [not first, first and second, first or second, first and not second]
                self.assertEqual([takes(watcher, row) for watcher in made], expected)
                self.assertEqual([len(runs(watcher, row)) for watcher in made], [1] * 4)
                found[first, second] = found.get((first, second), 0) + 1
            row = random_row(rolls, more, 3, 2)
            self.assertEqual((takes(made[0], row), len(runs(made[0], row))), (not is_told(one, row), 1))
        self.assertEqual(len(found), 4)
        self.assertGreater(min(found.values()), 30)

    def test_the_facts(self):
        rolls = random.Random(49)
        for _ in range(50):
            one = random_sure(rolls, clocks=1, places=3, arrows=6, cuts=2, most=2)
            other = random_sure(rolls, clocks=rolls.choice([0, 1, 2]), places=2, arrows=5, cuts=2, most=2)
            signals = sorted(set(one.signals()) | set(other.signals()))
            self.assertTrue(told_alike(not_told(not_told(one, signals), signals), one))
            neither = both_tell(not_told(one, signals), not_told(other, signals))
            self.assertTrue(told_alike(neither, not_told(either_tell(one, other), signals)))
            not_both = either_tell(not_told(one, signals), not_told(other, signals))
            self.assertTrue(told_alike(not_both, not_told(both_tell(one, other), signals)))
            self.assertTrue(told_alike(less_tell(one, other), both_tell(one, not_told(other, signals))))
            self.assertTrue(told_within(both_tell(one, other), one))
            self.assertTrue(told_within(other, either_tell(one, other)))

    def test_made_ones_go_live(self):
        rolls = random.Random(46)
        for _ in range(40):
            one = random_sure(rolls, clocks=1, places=3, arrows=6, cuts=2, most=2)
            other = random_sure(rolls, clocks=1, places=2, arrows=5, cuts=2, most=2)
            made = either_tell(one, other)
            row = random_row(rolls, made.signals(), 4, 2)
            going = Going(made)
            numbers = [going.hear(signal, time) for signal, time in row]
            self.assertEqual(runs(made, row), [tuple(numbers)])
            self.assertIs(is_run(made, going.run()), True)
            self.assertIs(going.place() in made.ends(), is_told(one, row) or is_told(other, row))
            self.assertIsNone(going.until())
            for signal in made.signals():
                self.assertEqual(going.when(signal), [(("from", going.now()), None)])

    def test_equal_ones_of_equal_ones(self):
        rolls = random.Random(47)
        for _ in range(20):
            one = random_sure(rolls, clocks=2, places=3, arrows=6, cuts=2, most=2)
            limits = {place: dict(list(one.limit(place).items())[::-1]) for place in one.places()}
            again = Watcher(tuple(one.clocks()), limits, [list(arrow) for arrow in one.arrows()], one.ends())
            self.assertEqual(not_told(one, one.signals()), not_told(again, tuple(one.signals())))
            self.assertEqual(either_tell(one, doors()), either_tell(again, doors()))


class SoonTest(unittest.TestCase):
    def test_three_deep(self):
        rolls = random.Random(48)
        for _ in range(12):
            ones = [random_sure(rolls, clocks=1, places=4, arrows=12, cuts=2, most=6, signals="abc", limits=0.1)
                    for _ in range(3)]
            signals = ["a", "b", "c"]
            begin = time.process_time()
            deep = both_tell(either_tell(ones[0], ones[1]), not_told(ones[2], signals))
            deepest = not_told(deep, signals)
            self.assertIsNone(unsure(deepest))
            for _ in range(5):
                row = random_row(rolls, signals, 6, 6)
                first, second, third = [is_told(watcher, row) for watcher in ones]
                self.assertIs(takes(deepest, row), not ((first or second) and not third))
            other = either_tell(not_told(either_tell(ones[0], ones[1]), signals), ones[2])
            self.assertTrue(told_alike(deepest, other))
            self.assertLess(time.process_time() - begin, 2)

    def test_two_clocks_each(self):
        rolls = random.Random(50)
        for _ in range(12):
            one, other = [random_sure(rolls, clocks=2, places=4, arrows=14, cuts=2, most=6, signals="abc", limits=0.1)
                          for _ in range(2)]
            for work in (both_tell, either_tell, less_tell):
                begin = time.process_time()
                work(one, other)
                self.assertLess(time.process_time() - begin, 1)

    def test_pairs_of_numbers(self):
        self.assertEqual(pair_of(3), (3, 1))


if __name__ == "__main__":
    unittest.main()
