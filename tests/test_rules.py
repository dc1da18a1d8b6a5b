"""[51] to [54], the errors of [58] as far as they speak of rules alone, and that the facts of [53] hold."""

import random
import time
import unittest

from rowsintime.errors import BadRule
from rowsintime.making import not_told
from rowsintime.rules import checked_rule, first_broken, keeps, signals_in, watcher_of
from rowsintime.runs import runs, unsure
from rowsintime.telling import tells, told_alike
from tests.helper import (
    as_lists, error_of, fault, is_kept, random_plain, random_row, random_rule, strange_objects, unkept)

SINCE = ("since", "bell", "door", "upto", 3)
SOON = ("soon", "bell", "lamp", "below", 5)

# Things that are no rules, each with the path to the first wrong thing in it.
WRONG = [
    (None, ()), ("since", ()), ([], ()), ((), ()), ({}, ()), (7, ()), ([[]], ()), (("since",), ()), (("Since",) + SINCE[1:], ()),
    (SINCE[:4], ()), (SINCE + (1,), ()), (("soon", "a", "b"), ()), (("not",), ()), (("not", SINCE, SOON), ()),
    (("both", SINCE), ()), (("both", SINCE, SOON, SOON), ()), (("either",), ()), ((None, SINCE), ()),
    (([], SINCE), ()), ((("not",), SINCE), ()), (("neither", SINCE, SOON), ()),
    (("since", "", "b", "upto", 1), (1,)), (("since", "A", "B", "upon", -1), (1,)), (("since", 1, 2, 3, 4), (1,)),
    (("since", None, "b", "upto", 1), (1,)), (("since", ["a"], "b", "upto", 1), (1,)),
    (("soon", "a", "abcdefghi", "upto", 1), (2,)), (("soon", "a", "b1", "from", None), (2,)),
    (("soon", "a", "b", "from", 1), (3,)), (("soon", "a", "b", "above", -1), (3,)), (("soon", "a", "b", ["upto"], 1), (3,)),
    (("since", "a", "b", "up", 1), (3,)), (("since", "a", "b", None, 1), (3,)), (("since", "a", "b", "", True), (3,)),
    (("since", "a", "b", "upto", -1), (4,)), (("since", "a", "b", "upto", True), (4,)), (("soon", "a", "b", "upto", "1"), (4,)),
    (("soon", "a", "b", "below", (1, 1)), (4,)), (("soon", "a", "b", "below", None), (4,)),
    (("not", None), (1,)), (("not", "since"), (1,)), (("not", ("soon", "a", "b", "from", 1)), (1, 3)),
    (("not", ("not", ("not", ("since", "a", "b", "upto", -1)))), (1, 1, 1, 4)),
    (("both", SINCE, ("since", "a", 3, "x", 1)), (2, 2)), (("both", ("not", 3), ("not", 4)), (1, 1)),
    (("either", SINCE, 3), (2,)), (("either", 2, 3), (1,)), (("either", SINCE, ("both", SINCE, ("not", SINCE, SOON))), (2, 2)),
    (("either", ("soon", "a", "b", "upto", -1), ("soon",)), (1, 4)),
]


class RuleTest(unittest.TestCase):
    def test_rules_are_told_as_tuples(self):
        self.assertEqual(checked_rule(SINCE), SINCE)
        self.assertEqual(checked_rule(list(SINCE)), SINCE)
        for word in ("upto", "below", "from", "above"):
            self.assertEqual(checked_rule(["since", "a", "a", word, 0]), ("since", "a", "a", word, 0))
        self.assertEqual(checked_rule(thing=["not", ["both", list(SINCE), ("either", SOON, list(SINCE))]]),
                         ("not", ("both", SINCE, ("either", SOON, SINCE))))
        rolls = random.Random(1)
        for _ in range(100):
            rule = random_rule(rolls, "abc", depth=4, plain=3)
            told = checked_rule(as_lists(rule))
            self.assertEqual(told, rule)
            self.assertEqual(repr(told), repr(rule))

    def test_names_can_be_words_of_rules(self):
        rule = ("since", "since", "not", "upto", 10 ** 30)
        self.assertEqual(checked_rule(rule), rule)
        self.assertEqual(signals_in(("not", rule)), ["not", "since"])

    def test_what_is_no_rule(self):
        for thing, path in WRONG:
            for told in (thing, as_lists(thing)):
                self.assertEqual(fault(lambda: checked_rule(told)), ("BadRule", path), thing)
                self.assertEqual(fault(lambda: signals_in(told)), ("BadRule", path), thing)
                self.assertEqual(fault(lambda: keeps(told, None)), ("BadRule", path), thing)
                self.assertEqual(fault(lambda: first_broken(told, None)), ("BadRule", path), thing)
                self.assertEqual(fault(lambda: watcher_of(told, None)), ("BadRule", path), thing)
        self.assertIsInstance(error_of(lambda: checked_rule(("not", 3))).path, tuple)

    def test_any_objects(self):
        for thing in strange_objects():
            self.assertEqual(fault(lambda: checked_rule(thing)), ("BadRule", ()))
            self.assertEqual(fault(lambda: checked_rule(["not", thing])), ("BadRule", (1,)))
            for at in range(1, 5):
                rule = list(SINCE)
                rule[at] = thing
                error = error_of(lambda: checked_rule(rule))
                self.assertTrue(error is None or (isinstance(error, BadRule) and error.path == (at,)), (rule, error))

    def test_signals_in(self):
        self.assertEqual(signals_in(list(SINCE)), ["bell", "door"])
        self.assertEqual(signals_in(rule=("since", "b", "b", "upto", 1)), ["b"])
        self.assertEqual(signals_in(("both", SOON, ("not", SINCE))), ["bell", "door", "lamp"])

    def test_a_changed_rule_changes_nothing(self):
        rule = as_lists(("not", SINCE))
        told = checked_rule(rule)
        rule[1][1] = "x"
        self.assertEqual(told, ("not", SINCE))
        names = signals_in(told)
        names.clear()
        self.assertEqual(signals_in(told), ["bell", "door"])


class KeepsTest(unittest.TestCase):
    def test_since(self):
        row = [("door", (1, 1)), ("door", (2, 1)), ("bell", (4, 1))]
        kept = {("upto", 2): True, ("upto", 1): False, ("below", 2): False, ("below", 3): True, ("from", 3): True,
                ("from", 4): False, ("above", 3): False, ("above", 2): True}
        for (word, n), truth in kept.items():
            rule = ("since", "bell", "door", word, n)
            self.assertIs(keeps(rule, row), truth, rule)
            self.assertEqual(first_broken(rule, row), None if truth else 2, rule)
        self.assertIs(keeps(SINCE, [("bell", (0, 1)), ("door", (0, 1))]), False)
        self.assertIs(keeps(SINCE, [("door", (0, 1)), ("bell", (0, 1))]), True)
        self.assertEqual(first_broken(SINCE, [("door", (0, 1)), ("bell", (3, 1)), ("bell", (7, 2)), ("bell", (4, 1))]), 2)

    def test_soon(self):
        row = [("bell", (1, 2)), ("bell", (1, 1)), ("lamp", (5, 1)), ("lamp", (9, 1))]
        self.assertIs(keeps(SOON, row), True)
        self.assertIs(keeps(("soon", "bell", "lamp", "below", 4), row), False)
        self.assertEqual(first_broken(("soon", "bell", "lamp", "below", 4), row), 0)
        self.assertEqual(first_broken(("soon", "bell", "lamp", "upto", 4), row), 0)
        self.assertEqual(first_broken(SOON, row + [("bell", (9, 1))]), 4)
        self.assertIs(keeps(SOON, [("lamp", (1, 1)), ("bell", (1, 1))]), False)
        self.assertIs(keeps(("soon", "bell", "lamp", "upto", 0), [("bell", (1, 1)), ("lamp", (1, 1))]), True)
        self.assertIs(keeps(("soon", "bell", "lamp", "below", 0), [("bell", (1, 1)), ("lamp", (1, 1))]), False)

    def test_rows_end(self):
        for word in ("upto", "below"):
            self.assertIs(keeps(("soon", "a", "b", word, 9), [("a", (1, 1))]), False)
            for rule in (("since", "a", "a", word, 9), ("soon", "a", "a", word, 9)):
                self.assertIs(keeps(rule, [("b", (0, 1)), ("b", (0, 1))]), True)
                self.assertIs(keeps(rule, [("a", (0, 1)), ("a", (0, 1))]), False)
                self.assertIs(keeps(rule, []), True)

    def test_rules_of_rules(self):
        row = [("door", (0, 1)), ("bell", (1, 1))]
        self.assertEqual((keeps(SINCE, row), keeps(SOON, row)), (True, False))
        self.assertIs(keeps(["not", SINCE], row), False)
        self.assertIs(keeps(["not", SOON], row), True)
        self.assertIs(keeps(["both", SINCE, SOON], row), False)
        self.assertIs(keeps(["either", SINCE, SOON], row), True)
        self.assertIs(keeps(["both", SINCE, ["not", SOON]], row), True)
        self.assertIs(keeps(["either", ["not", SINCE], SOON], row), False)

    def test_against_the_words_of_the_rules(self):
        rolls = random.Random(2)
        truths = {True: 0, False: 0}
        for _ in range(1500):
            rule = random_rule(rolls, "abc")
            row = random_row(rolls, "abc", rolls.randint(0, 7), 2)
            self.assertIs(keeps(as_lists(rule), as_lists(row)), is_kept(rule, row), (rule, row))
            truths[is_kept(rule, row)] += 1
            plain = random_plain(rolls, "ab")
            broken = unkept(plain, row)
            self.assertEqual(first_broken(rule=plain, row=row), broken[0] if broken else None, (plain, row))
        self.assertGreater(min(truths.values()), 400)

    def test_times_as_fractions(self):
        self.assertIs(keeps(("soon", "a", "b", "upto", 1), [["a", [3, 6]], ["b", [6, 4]]]), True)
        self.assertIs(keeps(("soon", "a", "b", "below", 1), [["a", [3, 6]], ["b", [6, 4]]]), False)

    def test_errors_in_their_order(self):
        bad_row = [("a", (1, 1)), ("b", (0, 1))]
        self.assertEqual(fault(lambda: keeps(("not",), bad_row)), ("BadRule", ()))
        self.assertEqual(fault(lambda: keeps(SINCE, bad_row)), ("BadRow", 1))
        self.assertEqual(fault(lambda: keeps(SINCE, None)), ("BadRow", 0))
        self.assertEqual(fault(lambda: first_broken(SINCE, bad_row)), ("BadRow", 1))
        for rule in (("not", SINCE), ["both", SINCE, SOON], ("either", SOON, SINCE)):
            error = error_of(lambda: first_broken(rule, bad_row))
            self.assertEqual(error.__class__.__name__, "NotPlain")
            self.assertIs(error.rule, rule)
        for thing in strange_objects():
            if thing not in ([], ()):
                self.assertEqual(fault(lambda: keeps(SINCE, thing)), ("BadRow", 0))
            self.assertEqual(fault(lambda: first_broken(SINCE, [("a", (0, 1)), thing])), ("BadRow", 1))


class WatcherOfTest(unittest.TestCase):
    def check_whole(self, watcher, signals, row):
        self.assertEqual(watcher.signals(), sorted(signals))
        self.assertIsNone(unsure(watcher))
        self.assertTrue(all(watcher.limit(place) == {} for place in watcher.places()))
        self.assertEqual(len(runs(watcher, row)), 1)
        self.assertEqual(len(runs(watcher, [])), 1)

    def test_it_tells_just_the_rows_that_keep_the_rule(self):
        rolls = random.Random(3)
        for _ in range(150):
            rule = random_rule(rolls, "abc", depth=4, plain=3)
            watcher = watcher_of(as_lists(rule), ["c", "a", "d", "b"])
            for _ in range(8):
                row = random_row(rolls, "abcd", rolls.randint(0, 6), 2)
                self.assertIs(tells(watcher, row), is_kept(rule, row), (rule, row))
                self.check_whole(watcher, "abcd", row)

    def test_one_clock_and_three_places_are_enough(self):
        rolls = random.Random(4)
        for _ in range(60):
            rule = random_plain(rolls, "ab", 7)
            watcher = watcher_of(rule, ["a", "b"])
            self.assertLessEqual(len(watcher.clocks()), 1)
            self.assertLessEqual(len(watcher.places()), 3)

    def test_the_same_each_time(self):
        rule = ("not", ("both", SINCE, SOON))
        told = watcher_of(rule, ["lamp", "door", "bell"])
        self.assertEqual(watcher_of(as_lists(rule), ("lamp", "door", "bell")), told)
        self.assertEqual(watcher_of(rule=rule, signals=["bell", "door", "lamp"]).signals(), ["bell", "door", "lamp"])

    def test_rules_alike(self):
        alike = [(("not", ("not", SINCE)), SINCE), (("both", SINCE, SOON), ("both", SOON, SINCE)),
                 (("not", ("both", SINCE, SOON)), ("either", ("not", SINCE), ("not", SOON))),
                 (("since", "bell", "bell", "upto", 1), ("soon", "bell", "bell", "below", 7))]
        for one, other in alike:
            self.assertTrue(told_alike(watcher_of(one, ["bell", "door", "lamp"]), watcher_of(other, ["bell", "door", "lamp"])))
        unlike = [(SINCE, ("since", "bell", "door", "below", 3)), (SINCE, SOON), (("both", SINCE, SOON), SINCE)]
        for one, other in unlike:
            self.assertFalse(told_alike(watcher_of(one, ["bell", "door", "lamp"]), watcher_of(other, ["bell", "door", "lamp"])))
        self.assertTrue(told_alike(watcher_of(("not", SINCE), ["bell", "door"]),
                                   not_told(watcher_of(SINCE, ["bell", "door"]), ["bell", "door"])))

    def test_errors_in_their_order(self):
        self.assertEqual(fault(lambda: watcher_of(("not", 3), ["a", "a"])), ("BadRule", (1,)))
        self.assertEqual(fault(lambda: watcher_of(SINCE, ["x", "x"])), ("BadSignals", 1))
        self.assertEqual(fault(lambda: watcher_of(SINCE, ["door", "X", "door"])), ("BadSignals", 1))
        self.assertEqual(fault(lambda: watcher_of(SINCE, None)), ("BadSignals", 0))
        self.assertEqual(fault(lambda: watcher_of(SINCE, [])), ("Lacks", "bell"))
        self.assertEqual(fault(lambda: watcher_of(SINCE, ["bell"])), ("Lacks", "door"))
        self.assertEqual(fault(lambda: watcher_of(("since", "door", "bell", "upto", 3), ["lamp"])), ("Lacks", "bell"))
        for thing in strange_objects():
            self.assertIn(fault(lambda: watcher_of(SINCE, thing))[0], ("BadSignals", "Lacks"))

    def test_as_great_as_the_limits_let(self):
        rolls = random.Random(5)
        for _ in range(20):
            rule = ("not", ("either", random_plain(rolls, "abc", 7),
                            ("not", ("both", random_plain(rolls, "abc", 7), random_plain(rolls, "abc", 7)))))
            begin = time.monotonic()
            watcher_of(rule, ["a", "b", "c"])
            self.assertLess(time.monotonic() - begin, 1)


if __name__ == "__main__":
    unittest.main()
