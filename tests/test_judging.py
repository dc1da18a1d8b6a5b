"""[55] and [56], the facts of [57], and the errors and the example of [58]."""

import random
import time
import unittest
from collections import Counter

from rowsintime.errors import NoRow
from rowsintime.judging import breaking, judged, keeping, tightest
from rowsintime.making import less_tell, not_told
from rowsintime.rules import keeps, signals_in, watcher_of
from rowsintime.runs import ended, heard, is_run
from rowsintime.telling import told_alike
from rowsintime.watchers import Watcher
from tests.helper import (
    Regions, as_lists, caps_of, error_of, fault, limit_cuts, random_plain, random_row, random_rule, random_sure,
    random_watcher, strange_objects)
from tests.test_rowscome import doubled

LESS_FIRST = ["below", "upto"]


def rings():
    """The example of [58]."""
    return Watcher(["x"], {"p": {}, "q": {"x": ("upto", 3)}}, [
        ("p", "ring", [], ["x"], "q"), ("q", "open", [("x", "above", 1)], [], "p")], ["p"])


def plain_parts(rule):
    if rule[0] in ("since", "soon"):
        return [rule]
    return [part for one in rule[1:] for part in plain_parts(one)]


def truth_of(rule, truths):
    """Whether a rule is kept, by the truths of its since and soon, which are taken off in order."""
    if rule[0] in ("since", "soon"):
        return truths.pop(0)
    found = [truth_of(part, truths) for part in rule[1:]]
    return {"not": not found[0], "both": all(found), "either": any(found)}[rule[0]]


class Ruled:
    """A watcher beside a rule, by regions: for each since and soon a clock, and whether it waits, and is broken."""

    def __init__(self, watcher, rule):
        self.watcher, self.rule, self.plain = watcher, rule, plain_parts(rule)
        self.regions = Regions(dict(caps_of(watcher), **{str(at): part[4] for at, part in enumerate(self.plain)}))

    def first(self):
        place = self.watcher.places()[0]
        region = self.regions.start()
        if not self.regions.keeps_all(region, limit_cuts(self.watcher, place)):
            return []
        return [(place, region, ((False, False),) * len(self.plain))]

    def waited(self, stand):
        place, region, states = stand
        found = []
        while (place, region, states) not in found and self.regions.keeps_all(region, limit_cuts(self.watcher, place)):
            found.append((place, region, states))
            region = self.regions.later(region)
        return found

    def behind(self, stand):
        """All stands right behind one arrow more."""
        found = []
        for place, region, states in self.waited(stand):
            for source, signal, cuts, begun, to in self.watcher.arrows():
                if source == place and self.regions.keeps_all(region, cuts):
                    heard_states, clocks = self.heard(region, states, signal)
                    after = self.regions.begin(region, list(begun) + clocks)
                    if self.regions.keeps_all(after, limit_cuts(self.watcher, to)):
                        found.append((to, after, heard_states))
        return found

    def heard(self, region, states, signal):
        """The states behind a signal, and the clocks that it begins."""
        behind, clocks = [], []
        for at, (word, one, other, bound, n) in enumerate(self.plain):
            waits, is_broken = states[at]
            is_so = self.regions.keeps(region, (str(at), bound, n))
            if word == "since":
                # Whether an other one stands ahead; the clock is that of the one that decides.
                is_broken = is_broken or (signal == one and not (waits and is_so))
                if signal == other and (not waits or bound in ("upto", "below")):
                    clocks.append(str(at))
                waits = waits or signal == other
            else:
                # Whether a one has no other one behind it yet; the clock is that of the first such.
                if waits and signal == other:
                    is_broken, waits = is_broken or not is_so, False
                if signal == one and not waits:
                    clocks.append(str(at))
                    waits = True
            behind.append((waits, is_broken))
        return tuple(behind), clocks

    def is_kept(self, stand):
        truths = [not is_broken and not (part[0] == "soon" and waits)
                  for part, (waits, is_broken) in zip(self.plain, stand[2])]
        return truth_of(self.rule, truths)

    def fewest(self):
        """By how few arrows rows end that keep the rule, and that do not; without what none do."""
        level, seen, found, many = self.first(), set(), {}, 0
        while level:
            for stand in level:
                if stand[0] in self.watcher.ends():
                    found.setdefault(self.is_kept(stand), many)
            seen |= set(level)
            level = sorted({to for stand in level for to in self.behind(stand)} - seen, key=repr)
            many += 1
        return found


def all_bounds(word, most):
    """All bounds of the sort of a word with numbers up to most, tighter ones first."""
    if word in ("upto", "below"):
        return [(one, n) for n in range(most + 1) for one in ("below", "upto")]
    return [(one, n) for n in range(most, -1, -1) for one in ("above", "from")]


def verdict_of(watcher, rule):
    try:
        return judged(watcher, rule)
    except NoRow:
        return None


class ExampleTest(unittest.TestCase):
    def test_the_example(self):
        watcher = rings()
        self.assertEqual(judged(watcher, ("soon", "ring", "open", "upto", 3)), "sure")
        self.assertEqual(judged(watcher, ("soon", "ring", "open", "upto", 2)), "open")
        self.assertEqual(tightest(watcher, ("soon", "ring", "open", "upto", 0), 9), ("upto", 3))
        self.assertEqual(tightest(watcher, ("since", "open", "ring", "from", 0), 9), ("above", 1))
        self.assertIs(keeps(("soon", "ring", "open", "upto", 2), []), True)
        self.assertIs(keeps(("since", "open", "ring", "from", 0), []), True)

    def test_by_name_and_as_lists(self):
        rule = ["soon", "ring", "open", "upto", 2]
        self.assertEqual(judged(watcher=rings(), rule=rule), "open")
        self.assertEqual(keeping(watcher=rings(), rule=rule), [])
        self.assertEqual(len(breaking(watcher=rings(), rule=rule)), 2)
        self.assertEqual(tightest(watcher=rings(), rule=rule, most=3), ("upto", 3))
        self.assertIsNone(tightest(rings(), rule, 2))


class JudgedTest(unittest.TestCase):
    def check_papers(self, watcher, rule, fewest):
        for run, truth in ((keeping(watcher, rule), True), (breaking(watcher, as_lists(rule)), False)):
            if truth not in fewest:
                self.assertIsNone(run)
                continue
            self.assertIsInstance(run, list)
            self.assertTrue(is_run(watcher, run))
            self.assertIn(ended(watcher, run), watcher.ends())
            self.assertIs(keeps(rule, heard(watcher, run)), truth)
            self.assertEqual(len(run), fewest[truth])

    def test_against_regions(self):
        rolls = random.Random(1)
        verdicts = Counter()
        for _ in range(220):
            watcher = random_watcher(rolls, clocks=rolls.randint(0, 2), places=rolls.randint(1, 3), cuts=1, most=2,
                                     arrows=rolls.randint(2, 5), limits=0.2)
            rule = random_rule(rolls, "abc", most=2)
            fewest = Ruled(watcher, rule).fewest()
            wanted = {(True, True): "open", (True, False): "sure", (False, True): "never", (False, False): None}
            told = verdict_of(watcher, rule)
            self.assertEqual(told, wanted[True in fewest, False in fewest], (watcher.arrows(), rule))
            self.check_papers(watcher, rule, fewest)
            verdicts[told] += 1
        self.assertGreater(min(verdicts[word] for word in ("sure", "never", "open", None)), 20)

    def test_the_empty_row_is_a_row(self):
        watcher = Watcher([], {"p": {}}, [], ["p"])
        self.assertEqual(judged(watcher, ("since", "a", "b", "upto", 1)), "sure")
        self.assertEqual(judged(watcher, ("not", ("since", "a", "b", "upto", 1))), "never")
        self.assertEqual(keeping(watcher, ("since", "a", "b", "upto", 1)), [])
        self.assertIsNone(breaking(watcher, ("since", "a", "b", "upto", 1)))

    def test_watchers_that_are_not_sure(self):
        watcher = Watcher([], {"p": {}, "q": {}}, [("p", "a", [], [], "q"), ("p", "a", [], [], "p"), ("q", "b", [], [], "q")],
                          ["q"])
        self.assertEqual(judged(watcher, ("since", "b", "a", "from", 0)), "sure")
        self.assertEqual(judged(watcher, ("since", "b", "a", "above", 0)), "open")
        self.assertEqual(judged(watcher, ("soon", "a", "b", "upto", 5)), "open")

    def test_times_between_whole_ones(self):
        watcher = Watcher(["x"], {"p": {}, "q": {}, "r": {}}, [
            ("p", "a", [], ["x"], "q"), ("q", "b", [("x", "above", 0), ("x", "below", 1)], [], "r")], ["r"])
        rule = ("soon", "a", "b", "below", 1)
        self.assertEqual(judged(watcher, rule), "sure")
        self.assertEqual(judged(watcher, ("soon", "a", "b", "upto", 0)), "never")
        self.assertTrue(is_run(watcher, keeping(watcher, rule)))
        self.assertEqual(tightest(watcher, rule, 5), ("below", 1))

    def test_no_row(self):
        rule = ("since", "a", "b", "upto", 1)
        for watcher in (Watcher([], {"p": {}, "q": {}}, [("p", "a", [], [], "p")], ["q"]),
                        Watcher([], {"p": {}}, [("p", "a", [], [], "p")], []),
                        Watcher(["x"], {"p": {"x": ("below", 0)}}, [("p", "a", [], [], "p")], ["p"])):
            self.assertEqual(fault(lambda: judged(watcher, rule)), ("NoRow",))
            self.assertEqual(fault(lambda: tightest(watcher, rule, None)), ("NoRow",))
            self.assertIsNone(keeping(watcher, rule))
            self.assertIsNone(breaking(watcher, rule))


class TightestTest(unittest.TestCase):
    def test_it_is_the_first_bound_that_is_sure(self):
        rolls = random.Random(2)
        told = Counter()
        for _ in range(120):
            watcher = random_watcher(rolls, clocks=rolls.randint(1, 2), places=2, cuts=1, most=2, limits=0.2)
            rule = random_plain(rolls, "ab", 3)
            if verdict_of(watcher, rule) is None:
                continue
            most = rolls.randint(0, 4)
            sure = [bound for bound in all_bounds(rule[3], most) if judged(watcher, rule[:3] + bound) == "sure"]
            self.assertEqual(tightest(watcher, rule, most), sure[0] if sure else None)
            # What is sure by a bound is so by each looser one.
            self.assertEqual(sure, all_bounds(rule[3], most)[-len(sure):] if sure else [])
            told[sure[0][0] if sure else None] += 1
        self.assertGreater(len(told), 3)

    def test_ends_of_the_sort(self):
        never_a = Watcher([], {"p": {}}, [("p", "b", [], [], "p")], ["p"])
        self.assertEqual(tightest(never_a, ("soon", "a", "b", "upto", 7), 4), ("below", 0))
        self.assertEqual(tightest(never_a, ("since", "a", "b", "below", 7), 0), ("below", 0))
        self.assertEqual(tightest(never_a, ("since", "a", "b", "from", 7), 4), ("above", 4))
        self.assertEqual(tightest(never_a, ("since", "a", "b", "above", 7), 0), ("above", 0))
        self.assertIsNone(tightest(never_a, ("soon", "b", "a", "upto", 1), 4))
        self.assertIsNone(tightest(never_a, ("since", "b", "a", "from", 0), 4))

    def test_the_rules_own_number_does_not_matter(self):
        for n in (0, 3, 12, 10 ** 12):
            self.assertEqual(tightest(rings(), ("soon", "ring", "open", "below", n), 12), ("upto", 3))


class FactsTest(unittest.TestCase):
    def test_not_changes_sure_and_never(self):
        rolls = random.Random(3)
        turned = {"sure": "never", "never": "sure", "open": "open", None: None}
        for _ in range(60):
            watcher = random_watcher(rolls, most=2, cuts=1, limits=0.2)
            rule = random_rule(rolls, "ab", most=3)
            self.assertEqual(verdict_of(watcher, ("not", rule)), turned[verdict_of(watcher, rule)])

    def test_fewer_rows_keep_sure_and_never(self):
        rolls = random.Random(4)
        many = 0
        for _ in range(60):
            one = random_sure(rolls, clocks=1, places=2, most=2)
            other = random_sure(rolls, clocks=1, places=2, most=2)
            rule = random_rule(rolls, "ab", plain=1)
            fewer = less_tell(one, other)
            told = (verdict_of(one, rule), verdict_of(fewer, rule))
            if told[0] in ("sure", "never") and told[1] is not None:
                self.assertEqual(told[0], told[1])
                many += 1
        self.assertGreater(many, 5)

    def test_a_rules_own_watcher(self):
        rolls = random.Random(5)
        for _ in range(25):
            rule = random_rule(rolls, "abc", depth=3, plain=3, most=7)
            signals = ["a", "b", "c"]
            mine, others = watcher_of(rule, signals), watcher_of(("not", rule), signals)
            for watcher, word in ((mine, "sure"), (others, "never"), (not_told(mine, signals), "never")):
                self.assertIn(verdict_of(watcher, rule), (word, None))
            self.assertTrue(told_alike(others, not_told(mine, signals)))

    def test_same_rows_just_if_told_alike(self):
        rolls = random.Random(6)
        alike = 0
        for _ in range(150):
            one, other = [random_rule(rolls, "ab", depth=2, plain=2, most=1) for _ in range(2)]
            watchers = [watcher_of(rule, ["a", "b"]) for rule in (one, other)]
            is_alike = judged(watcher_of(("either", one, ("not", one)), ["a", "b"]),
                              ("either", ("both", one, other), ("both", ("not", one), ("not", other)))) == "sure"
            self.assertIs(told_alike(*watchers), is_alike)
            alike += is_alike
            for _ in range(10):
                row = random_row(rolls, "ab", rolls.randint(0, 4), 1)
                self.assertFalse(is_alike and keeps(one, row) is not keeps(other, row))
        self.assertGreater(alike, 3)

    def test_all_numbers_doubled(self):
        rolls = random.Random(7)
        for _ in range(40):
            watcher = random_watcher(rolls, clocks=1, places=2, most=2, cuts=1, limits=0.2)
            rule = random_plain(rolls, "ab")
            twice = rule[:4] + (2 * rule[4],)
            told = verdict_of(watcher, rule)
            self.assertEqual(verdict_of(doubled(watcher), twice), told)
            if told is not None:
                bound = tightest(watcher, rule, 4)
                self.assertEqual(tightest(doubled(watcher), twice, 8), bound and (bound[0], 2 * bound[1]), (bound, rule))

    def test_signals_that_the_watcher_does_not_have(self):
        self.assertEqual(judged(rings(), ("since", "lamp", "ring", "upto", 0)), "sure")
        self.assertEqual(judged(rings(), ("soon", "ring", "lamp", "upto", 9)), "open")
        self.assertEqual(judged(rings(), ("since", "ring", "lamp", "upto", 9)), "open")


class ErrorsTest(unittest.TestCase):
    def test_errors_in_their_order(self):
        unseen = Watcher([], {"p": {}}, [("p", "a", [], [], "p"), ("p", None, [], [], "p")], [])
        for function in (judged, keeping, breaking):
            self.assertEqual(fault(lambda: function(unseen, None)), ("Unseen", 1))
            self.assertEqual(fault(lambda: function(rings(), ("not", None))), ("BadRule", (1,)))
            for thing in strange_objects():
                self.assertEqual(fault(lambda: function(rings(), thing)), ("BadRule", ()))
        never = Watcher([], {"p": {}}, [], [])
        rule = ("since", "a", "b", "upto", 1)
        self.assertEqual(fault(lambda: judged(never, ("not", None))), ("BadRule", (1,)))
        self.assertEqual(fault(lambda: tightest(unseen, None, None)), ("Unseen", 1))
        self.assertEqual(fault(lambda: tightest(never, ("not", ("not", 1)), None)), ("BadRule", (1, 1)))
        wrapped = ["not", list(rule)]
        error = error_of(lambda: tightest(never, wrapped, None))
        self.assertEqual((error.__class__.__name__, error.rule is wrapped), ("NotPlain", True))
        self.assertEqual(fault(lambda: tightest(never, rule, None)), ("NoRow",))
        for thing in strange_objects():
            if not isinstance(thing, int) or isinstance(thing, bool) or thing < 0:
                error = error_of(lambda: tightest(rings(), rule, thing))
                self.assertEqual((error.__class__.__name__, error.thing is thing), ("BadNumber", True))


class SoonTest(unittest.TestCase):
    def test_as_great_as_the_limits_let(self):
        rolls = random.Random(8)
        for _ in range(60):
            watcher = random_watcher(rolls, clocks=2, places=4, arrows=8, cuts=2, most=6, signals="abc", limits=0.15)
            rule = random_rule(rolls, "abc", depth=4, plain=3, most=7)
            plain = random_plain(rolls, "abc", 7)
            works = [lambda: verdict_of(watcher, rule), lambda: keeping(watcher, rule), lambda: breaking(watcher, rule),
                     lambda: verdict_of(watcher, plain) and tightest(watcher, plain, 12)]
            for work in works:
                begin = time.monotonic()
                work()
                self.assertLess(time.monotonic() - begin, 1)

    def test_many_signals_around(self):
        # Clocks that run apart from one another for long: all arrows go round, each beginning one clock.
        arrows = [(place, signal, [(clock, "from", 5), (clock, "upto", 6)], [clock], place)
                  for place in "pq" for signal, clock in (("a", "x"), ("b", "y"))]
        arrows += [("p", "c", [], [], "q"), ("q", "c", [], [], "p")]
        watcher = Watcher(["x", "y"], {"p": {"x": ("upto", 6), "y": ("upto", 6)}, "q": {"x": ("upto", 6)}}, arrows, ["p"])
        rule = ("both", ("since", "a", "b", "upto", 7), ("either", ("soon", "b", "a", "below", 7),
                                                          ("not", ("since", "b", "c", "above", 5))))
        begin = time.monotonic()
        self.assertEqual(judged(watcher, rule), "open")
        self.assertEqual(signals_in(rule), ["a", "b", "c"])
        self.assertEqual(tightest(watcher, ("soon", "a", "c", "upto", 0), 12), None)
        self.assertLess(time.monotonic() - begin, 2)


if __name__ == "__main__":
    unittest.main()
