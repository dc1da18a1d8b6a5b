"""[25] and [26], [6] for stretches of fractions, and the example of [27] as far as it speaks of going."""

import random
import unittest
from fractions import Fraction

from rowsintime.errors import BadTime, Early, Held
from rowsintime.going import Going
from rowsintime.runs import is_run, runs, worths
from rowsintime.watchers import Watcher
from tests.helper import (
    error_of, fault, fraction, keeps_limit, pair_of, random_sure, stands_behind, strange_objects)


def doors():
    """The example of [27]."""
    return Watcher(["x"], {"shut": {}, "open": {"x": ("upto", 3)}},
                   [("shut", "door", [], ["x"], "open"), ("open", "bell", [("x", "above", 1)], [], "shut")], ["shut"])


def pieces(*cuts, limit=None):
    """A watcher whose bells ring while x keeps one of some lists of cuts, told by words and numbers."""
    arrows = [("p", "bell", [("x",) + cut for cut in asked], [], "q") for asked in cuts]
    return Watcher(["x"], {"p": limit or {}, "q": {}}, arrows, ["q"])


def state(going):
    """All that a Going tells of where it stands."""
    return (going.now(), going.place(), going.worths(), going.run(), going.until())


def is_in(stretches, time):
    """Whether a time stands in stretches as they are told."""
    for lower, upper in stretches:
        above = lower is None or time > fraction(lower[1]) or (lower[0] == "from" and time == fraction(lower[1]))
        below = upper is None or time < fraction(upper[1]) or (upper[0] == "upto" and time == fraction(upper[1]))
        if above and below:
            return True
    return False


class ExampleTest(unittest.TestCase):
    def test_the_example(self):
        going = Going(doors())
        self.assertEqual(state(going), ((0, 1), "shut", {"x": (0, 1)}, [], None))
        self.assertEqual(going.when("door"), [(("from", (0, 1)), None)])
        self.assertEqual(going.when("bell"), [])
        self.assertEqual(going.hear("door", (5, 2)), 0)
        self.assertEqual(going.until(), ("upto", (11, 2)))
        self.assertEqual(going.when("bell"), [(("above", (7, 2)), ("upto", (11, 2)))])
        self.assertEqual(going.when("door"), [])
        self.assertEqual(state(going), ((5, 2), "open", {"x": (0, 1)}, [(0, (5, 2))], ("upto", (11, 2))))
        self.assertIsNone(going.wait((9, 2)))
        self.assertEqual(state(going), ((9, 2), "open", {"x": (2, 1)}, [(0, (5, 2))], ("upto", (11, 2))))
        self.assertEqual(going.when("bell"), [(("from", (9, 2)), ("upto", (11, 2)))])
        self.assertEqual(going.hear("bell", (22, 4)), 1)
        self.assertEqual(state(going), ((11, 2), "shut", {"x": (3, 1)}, [(0, (5, 2)), (1, (11, 2))], None))

    def test_times_as_lists_and_by_name(self):
        going = Going(watcher=doors())
        self.assertEqual(going.hear(signal="door", time=[10, 4]), 0)
        going.wait(time=[3, 1])
        self.assertEqual(going.when(signal="bell"), [(("above", (7, 2)), ("upto", (11, 2)))])
        self.assertEqual(going.trial(work=lambda one: one is going), True)
        self.assertEqual(repr(going.run()), "[(0, (5, 2))]")

    def test_at_one_time(self):
        watcher = Watcher(["x"], {"p": {}}, [("p", "a", [("x", "from", 1)], ["x"], "p"), ("p", "b", [], [], "p")], [])
        going = Going(watcher)
        self.assertEqual(going.hear("a", (1, 1)), 0)
        self.assertEqual(fault(lambda: going.hear("a", (1, 1))), ("Refused", "a"))
        self.assertEqual([going.hear("b", (1, 1)), going.hear("b", (2, 2))], [1, 1])
        self.assertEqual(going.worths(), {"x": (0, 1)})


class ErrorTest(unittest.TestCase):
    def test_watchers_that_are_not_sure(self):
        both = [("p", "a", [], [], "p"), ("p", "a", [("x", "from", 1)], [], "p"), ("p", "b", [], [], "p")]
        self.assertEqual(fault(lambda: Going(Watcher(["x"], {"p": {}}, both, []))), ("Unsure", 0, 1))
        unseen = both + [("p", None, [], [], "p")]
        self.assertEqual(fault(lambda: Going(Watcher(["x"], {"p": {}}, unseen, []))), ("Unseen", 3))

    def test_bad_signals(self):
        going = Going(doors())
        for thing in strange_objects() + ["lamp", "x", "shut"]:
            for work in (lambda: going.hear(thing, None), lambda: going.when(thing)):
                error = error_of(work)
                self.assertEqual(error.__class__.__name__, "BadSignal")
                self.assertIs(error.thing, thing)

    def test_bad_times(self):
        going = Going(doors())
        going.wait((1, 1))
        for thing in strange_objects() + [(-1, 2), (1, -1), (1, 2, 3), [1], (1, True)]:
            kind = Early if repr(thing) in ("(0, 1)", "[1, 2]") else BadTime
            for work in (lambda: going.hear("bell", thing), lambda: going.wait(thing)):
                error = error_of(work)
                self.assertIsInstance(error, kind)
                self.assertIs(error.time if kind == Early else error.thing, thing)

    def test_the_order_of_errors(self):
        going = Going(doors())
        going.hear("door", (5, 1))
        self.assertEqual(fault(lambda: going.hear("lamp", "late")), ("BadSignal", "lamp"))
        self.assertEqual(fault(lambda: going.hear("door", "late")), ("BadTime", "late"))
        self.assertEqual(fault(lambda: going.hear("door", (4, 1))), ("Early", (4, 1)))
        self.assertEqual(fault(lambda: going.hear("door", (5, 1))), ("Refused", "door"))
        self.assertEqual(fault(lambda: going.hear("bell", (6, 1))), ("Refused", "bell"))
        self.assertEqual(fault(lambda: going.hear("bell", (17, 2))), ("Refused", "bell"))
        self.assertEqual(fault(lambda: going.wait((17, 2))), ("Held", (17, 2)))
        time = [99, 1]
        self.assertIs(error_of(lambda: going.wait(time)).time, time)
        self.assertIsInstance(error_of(lambda: going.wait(time)), Held)
        self.assertIsNone(fault(lambda: going.wait((8, 1))))

    def test_refused_by_the_place_behind(self):
        watcher = Watcher(["x"], {"p": {}, "q": {"x": ("below", 2)}}, [("p", "a", [], [], "q")], [])
        going = Going(watcher)
        self.assertEqual(going.when("a"), [(("from", (0, 1)), ("below", (2, 1)))])
        self.assertEqual(fault(lambda: going.hear("a", (2, 1))), ("Refused", "a"))
        self.assertEqual(going.hear("a", (15, 8)), 0)
        self.assertEqual(going.until(), ("below", (2, 1)))

    def test_a_first_place_that_cannot_be_held(self):
        for limit in ({"x": ("below", 0)}, {"x": ("upto", 3), "y": ("below", 0)}, {"x": ("upto", 0), "y": ("below", 0)}):
            watcher = Watcher(["x", "y"], {"p": limit, "q": {}}, [("p", "a", [], ["x", "y"], "q")], ["p"])
            going = Going(watcher)
            self.assertEqual(state(going), ((0, 1), "p", {"x": (0, 1), "y": (0, 1)}, [], ("below", (0, 1))))
            self.assertEqual(going.when("a"), [])
            for time in ((0, 1), (1, 2)):
                self.assertEqual(fault(lambda: going.hear("a", time)), ("Refused", "a"))
                self.assertEqual(fault(lambda: going.wait(time)), ("Held", time))
            self.assertEqual(fault(lambda: going.hear("b", None)), ("BadSignal", "b"))
            self.assertEqual(fault(lambda: going.when("b")), ("BadSignal", "b"))
            self.assertEqual(fault(lambda: going.hear("a", (-1, 1))), ("BadTime", (-1, 1)))
            self.assertEqual(fault(lambda: going.wait(3)), ("BadTime", 3))
            self.assertIs(going.undo(), False)

    def test_a_first_place_for_no_time(self):
        going = Going(Watcher(["x"], {"p": {"x": ("upto", 0)}, "q": {}}, [("p", "a", [], ["x"], "q")], ["p"]))
        self.assertEqual(going.until(), ("upto", (0, 1)))
        self.assertEqual(going.when("a"), [(("from", (0, 1)), ("upto", (0, 1)))])
        self.assertIsNone(going.wait((0, 7)))
        self.assertEqual(fault(lambda: going.wait((1, 7))), ("Held", (1, 7)))


class WhenTest(unittest.TestCase):
    def when(self, *cuts, limit=None, at=(0, 1)):
        going = Going(pieces(*cuts, limit=limit))
        going.wait(at)
        return going.when("bell")

    def test_stretches_that_touch_are_one(self):
        self.assertEqual(self.when([("below", 2)], [("from", 2)]), [(("from", (0, 1)), None)])
        self.assertEqual(self.when([("from", 1), ("below", 2)], [("from", 2)]), [(("from", (1, 1)), None)])
        self.assertEqual(self.when([("upto", 2)], [("above", 2)]), [(("from", (0, 1)), None)])
        self.assertEqual(self.when([("from", 2)], [("from", 1), ("below", 2)]), [(("from", (1, 1)), None)])

    def test_stretches_apart_stay_two(self):
        self.assertEqual(self.when([("from", 1), ("below", 2)], [("above", 2)]),
                         [(("from", (1, 1)), ("below", (2, 1))), (("above", (2, 1)), None)])
        self.assertEqual(self.when([("above", 4)], [("upto", 3)]),
                         [(("from", (0, 1)), ("upto", (3, 1))), (("above", (4, 1)), None)])

    def test_three_stretches(self):
        cuts = ([("above", 5), ("upto", 6)], [("upto", 0)], [("from", 2), ("upto", 2)])
        self.assertEqual(self.when(*cuts), [(("from", (0, 1)), ("upto", (0, 1))), (("from", (2, 1)), ("upto", (2, 1))),
                                            (("above", (5, 1)), ("upto", (6, 1)))])
        self.assertEqual(self.when(*cuts, at=(1, 3)), [(("from", (2, 1)), ("upto", (2, 1))),
                                                       (("above", (5, 1)), ("upto", (6, 1)))])
        self.assertEqual(self.when(*cuts, at=(16, 3)), [(("from", (16, 3)), ("upto", (6, 1)))])
        self.assertEqual(self.when(*cuts, at=(19, 3)), [])

    def test_limits_bound_it(self):
        self.assertEqual(self.when([("from", 1)], limit={"x": ("below", 3)}), [(("from", (1, 1)), ("below", (3, 1)))])
        self.assertEqual(self.when([("from", 3)], limit={"x": ("below", 3)}), [])
        self.assertEqual(self.when([("from", 3)], limit={"x": ("upto", 3)}), [(("from", (3, 1)), ("upto", (3, 1)))])

    def test_clocks_begun_at_unlike_fractions(self):
        watcher = Watcher(["x", "y"], {"p": {"y": ("below", 4)}}, [
            ("p", "a", [], ["x"], "p"), ("p", "b", [("x", "above", 1), ("y", "upto", 3)], ["y"], "p")], [])
        going = Going(watcher)
        going.hear("a", (1, 3))
        self.assertEqual(going.when("b"), [(("above", (4, 3)), ("upto", (3, 1)))])
        self.assertEqual(going.until(), ("below", (4, 1)))
        going.hear("b", (17, 12))
        self.assertEqual(going.until(), ("below", (65, 12)))
        self.assertEqual(going.when("b"), [(("from", (17, 12)), ("upto", (53, 12)))])
        self.assertEqual(going.worths(), {"x": (13, 12), "y": (0, 1)})
        going.hear("a", (3, 1))
        self.assertEqual(going.when("b"), [(("above", (4, 1)), ("upto", (53, 12)))])
        self.assertEqual(going.when("a"), [(("from", (3, 1)), ("below", (65, 12)))])

    def test_the_tighter_one_of_two_limits(self):
        watcher = Watcher(["x", "y"], {"p": {"x": ("upto", 2), "y": ("below", 2)}}, [("p", "a", [], ["y"], "p")], [])
        going = Going(watcher)
        self.assertEqual(going.until(), ("below", (2, 1)))
        going.hear("a", (1, 5))
        self.assertEqual(going.until(), ("upto", (2, 1)))


class DeedsTest(unittest.TestCase):
    def test_taken_back_and_done_again(self):
        going = Going(doors())
        self.assertIs(going.undo(), False)
        self.assertIs(going.again(), False)
        states = [state(going)]
        for deed in (lambda: going.hear("door", (1, 2)), lambda: going.wait((1, 2)), lambda: going.hear("bell", (2, 1)),
                     lambda: going.wait((7, 1))):
            deed()
            states.append(state(going))
        for expected in states[-2::-1]:
            self.assertIs(going.undo(), True)
            self.assertEqual(state(going), expected)
        self.assertIs(going.undo(), False)
        self.assertEqual(state(going), states[0])
        for expected in states[1:]:
            self.assertIs(going.again(), True)
            self.assertEqual(state(going), expected)
        self.assertIs(going.again(), False)
        self.assertEqual(state(going), states[-1])

    def test_a_wait_till_now_is_a_deed(self):
        going = Going(doors())
        going.wait((0, 3))
        self.assertIs(going.undo(), True)
        self.assertIs(going.undo(), False)

    def test_a_new_deed_makes_that_none_can_be_done_again(self):
        going = Going(doors())
        going.hear("door", (1, 1))
        going.wait((2, 1))
        going.undo()
        going.undo()
        going.wait((0, 1))
        self.assertIs(going.again(), False)
        self.assertIs(going.undo(), True)
        self.assertIs(going.again(), True)
        self.assertEqual(state(going), ((0, 1), "shut", {"x": (0, 1)}, [], None))

    def test_a_refused_deed_changes_nothing(self):
        going = Going(doors())
        going.hear("door", (1, 1))
        going.wait((3, 1))
        going.hear("bell", (4, 1))
        going.undo()
        ahead = state(going)
        for deed in (lambda: going.hear("lamp", (3, 1)), lambda: going.hear("bell", 3), lambda: going.hear("bell", (2, 1)),
                     lambda: going.hear("door", (3, 1)), lambda: going.wait(None), lambda: going.wait((1, 1)),
                     lambda: going.wait((9, 2)), lambda: going.when("lamp"), lambda: going.hear("bell", (9, 2))):
            self.assertIsNotNone(fault(deed))
            self.assertEqual(state(going), ahead)
        self.assertIs(going.again(), True)
        self.assertEqual(going.place(), "shut")
        self.assertEqual([going.undo(), going.undo(), going.undo(), going.undo()], [True, True, True, False])

    def test_copies_go_their_own_ways(self):
        going = Going(doors())
        going.hear("door", (1, 1))
        going.wait((2, 1))
        going.hear("bell", (3, 1))
        going.undo()
        other = going.copy()
        self.assertIsInstance(other, Going)
        self.assertEqual(state(other), state(going))
        self.assertIs(other.again(), True)
        self.assertEqual((other.place(), going.place()), ("shut", "open"))
        self.assertIs(going.undo(), True)
        self.assertEqual(going.hear("bell", (4, 1)), 1)
        self.assertIs(going.again(), False)
        self.assertEqual(other.run(), [(0, (1, 1)), (1, (3, 1))])
        self.assertEqual([other.undo(), other.undo(), other.undo(), other.undo()], [True, True, True, False])
        self.assertEqual([other.again(), other.again(), other.again(), other.again()], [True, True, True, False])
        self.assertEqual(going.run(), [(0, (1, 1)), (1, (4, 1))])
        self.assertEqual([going.undo(), going.undo(), going.undo()], [True, True, False])

    def test_a_copy_of_a_first_place_that_cannot_be_held(self):
        going = Going(Watcher(["x"], {"p": {"x": ("below", 0)}}, [], [])).copy()
        self.assertEqual(state(going), ((0, 1), "p", {"x": (0, 1)}, [], ("below", (0, 1))))

    def test_trial(self):
        going = Going(doors())
        going.hear("door", (1, 1))
        going.wait((2, 1))
        going.undo()
        ahead = state(going)

        def work(one):
            self.assertIs(one, going)
            one.hear("bell", (3, 1))
            one.wait((9, 1))
            one.undo()
            return [one.place(), one.again(), one.now()]

        self.assertEqual(going.trial(work), ["shut", True, (9, 1)])
        self.assertEqual(state(going), ahead)
        self.assertIs(going.again(), True)
        self.assertEqual(going.now(), (2, 1))
        self.assertIs(going.again(), False)

    def test_trial_that_goes_wrong(self):
        going = Going(doors())
        going.hear("door", (1, 1))
        going.wait((2, 1))
        going.undo()
        ahead = state(going)
        trouble = KeyError("trouble")

        def work(one):
            one.undo()
            one.hear("door", (4, 1))
            raise trouble

        self.assertIs(error_of(lambda: going.trial(work)), trouble)
        self.assertEqual(state(going), ahead)
        self.assertEqual(fault(lambda: going.trial(lambda one: one.hear("door", (9, 1)))), ("Refused", "door"))
        self.assertEqual(state(going), ahead)
        self.assertIs(going.again(), True)

    def test_trials_within_trials(self):
        going = Going(doors())

        def outer(one):
            one.hear("door", (1, 1))
            inner = one.trial(lambda two: (two.hear("bell", (3, 1)), two.place(), two.copy().run()))
            return (inner, state(one), one.again())

        inner, behind, is_again = going.trial(outer)
        self.assertEqual(inner, (1, "shut", [(0, (1, 1)), (1, (3, 1))]))
        self.assertEqual(behind[1:4], ("open", {"x": (0, 1)}, [(0, (1, 1))]))
        self.assertIs(is_again, False)
        self.assertEqual(state(going)[3], [])
        self.assertIs(going.again(), False)

    def test_what_is_told_is_the_callers_own(self):
        going = Going(doors())
        time = [5, 2]
        going.hear("door", time)
        time[0] = 99
        ahead = state(going)
        going.run().clear()
        going.worths().clear()
        going.when("bell").clear()
        self.assertEqual(state(going), ahead)
        self.assertEqual(ahead[0], (5, 2))

    def test_forty_deeds(self):
        going = Going(doors())
        for at in range(20):
            going.hear("door", (4 * at, 1))
            going.hear("bell", (4 * at + 3, 1))
        self.assertEqual(len(going.run()), 40)
        self.assertEqual([going.undo() for _ in range(41)], [True] * 40 + [False])


class ManyTest(unittest.TestCase):
    def step(self, rolls, going, watcher):
        """One deed made up, looked at by runs and by trying all arrows; whether it was a signal that was let."""
        time = fraction(going.now()) + rolls.choice([0, Fraction(1, 3), Fraction(1, 2), 1, 2])
        steps = [(number, fraction(pair)) for number, pair in going.run()]
        signal = rolls.choice(watcher.signals() or ["a"])
        fits = [number for number, arrow in enumerate(watcher.arrows())
                if arrow[1] == signal and stands_behind(watcher, steps + [(number, time)]) is not None]
        if rolls.random() < 0.3:
            place, behind = stands_behind(watcher, steps)
            last = steps[-1][1] if steps else 0
            is_let = keeps_limit(watcher, place, {clock: worth + time - last for clock, worth in behind.items()})
            self.assertEqual(fault(lambda: going.wait(pair_of(time))), None if is_let else ("Held", pair_of(time)))
            return False
        if not watcher.signals():
            return False
        self.assertIs(is_in(going.when(signal), time), bool(fits))
        if fits:
            self.assertEqual([going.hear(signal, pair_of(time))], fits)
        else:
            self.assertEqual(fault(lambda: going.hear(signal, pair_of(time))), ("Refused", signal))
        return bool(fits)

    def check_state(self, going, watcher):
        run = going.run()
        self.assertTrue(is_run(watcher, run))
        gone = fraction(going.now()) - (fraction(run[-1][1]) if run else 0)
        behind = worths(watcher, run)
        self.assertEqual(going.worths(), {clock: pair_of(fraction(behind[clock]) + gone) for clock in behind})
        until = going.until()
        self.assertTrue(is_in([(None, until)], fraction(going.now())))
        if until is not None:
            late = pair_of(fraction(until[1]) + Fraction(1, 60))
            self.assertEqual(fault(lambda: going.trial(lambda one: one.wait(late))), ("Held", late))
            end = until[1] if until[0] == "upto" else pair_of((fraction(until[1]) + fraction(going.now())) / 2)
            self.assertIsNone(fault(lambda: going.trial(lambda one: one.wait(end))))
        for signal in watcher.signals():
            stretches = going.when(signal)
            for ahead, behind in zip(stretches, stretches[1:]):
                self.assertLessEqual(fraction(ahead[1][1]), fraction(behind[0][1]))
                if ahead[1][1] == behind[0][1]:
                    self.assertEqual((ahead[1][0], behind[0][0]), ("below", "above"))

    def test_many_ways(self):
        rolls = random.Random(26)
        heard = 0
        for _ in range(200):
            watcher = random_sure(rolls, arrows=6, cuts=2, limits=0.2)
            if stands_behind(watcher, []) is None:
                continue
            going = Going(watcher)
            for _ in range(7):
                heard += self.step(rolls, going, watcher)
                self.check_state(going, watcher)
            row = [(watcher.arrows()[number][1], time) for number, time in going.run()]
            self.assertEqual(runs(watcher, row), [tuple(number for number, _ in going.run())])
        self.assertGreater(heard, 200)


if __name__ == "__main__":
    unittest.main()
