"""[6], [10], and the example of [15]: closed tables."""

import random
import unittest

from rowsintime.closing import alike, closed, spread, within
from rowsintime.errors import Empty, NoName, SameName, UnlikeNames
from rowsintime.points import is_ring, point
from rowsintime.tables import Table
from tests.helper import (
    PARTS, error_of, has, is_barred, is_closed, points_between, random_table, strange_objects, tightest)

EXAMPLE = Table(["a", "b"], {("a", "b"): ("upto", -1), ("b", ""): ("below", 4), ("", "a"): ("upto", 0)})
BARRED = Table(["a", "b"], {("a", "b"): ("below", 1), ("b", "a"): ("upto", -1)})


def pairs_of(table):
    spots = [""] + table.names()
    return [(one, other) for one in spots for other in spots if one != other]


def with_bound(table, one, other, bound):
    """The table with a bound in the place of that of a pair."""
    return Table(table.names(), {**table.bounds(), (one, other): bound})


def stretched(table, times):
    """The table with all numbers so many times as great."""
    return Table(table.names(), {pair: (word, n * times) for pair, (word, n) in table.bounds().items()})


class ClosedTest(unittest.TestCase):
    def test_the_example(self):
        table = closed(EXAMPLE)
        self.assertEqual(table, Table(["a", "b"], {
            ("", "a"): ("upto", 0), ("", "b"): ("upto", -1), ("a", ""): ("below", 3), ("a", "b"): ("upto", -1),
            ("b", ""): ("below", 4), ("b", "a"): ("below", 4)}))
        self.assertEqual(table.bound("b", "a"), ("below", 4))

    def test_no_names_and_no_bounds(self):
        self.assertEqual(closed(Table([], {})), Table([], {}))
        self.assertEqual(closed(Table(["a", "b"], {})), Table(["a", "b"], {}))

    def test_below_beside_upto_at_one_number(self):
        bounds = {("a", "b"): ("below", 1), ("b", "c"): ("upto", 1), ("a", "c"): ("upto", 2)}
        self.assertEqual(closed(Table(["a", "b", "c"], bounds)).bound("a", "c"), ("below", 2))
        bounds["a", "b"] = ("upto", 1)
        bounds["a", "c"] = ("below", 2)
        self.assertEqual(closed(Table(["a", "b", "c"], bounds)).bound("a", "c"), ("below", 2))

    def test_great_numbers(self):
        number = 999999999999
        table = closed(Table(["a", "b"], {("a", "b"): ("upto", number), ("b", ""): ("upto", number)}))
        self.assertEqual(table.bound("a", ""), ("upto", 2 * number))
        self.assertEqual(closed(table), table)

    def test_without_a_point(self):
        rolls = random.Random(1)
        barred = 0
        while barred < 40:
            table = random_table(rolls, ["a", "b", "c"], -3, 1)
            if is_barred(table):
                barred += 1
                for work in (lambda: closed(table), lambda: spread(table, "b", "")):
                    error = error_of(work)
                    self.assertIs(type(error), Empty)
                    self.assertIs(is_ring(table, error.ring), True)

    def test_many_tables_have_the_tightest_sums(self):
        rolls = random.Random(2)
        for round_ in range(250):
            table = random_table(rolls, ["a", "b", "c", "d"][:round_ % 4 + 1])
            if is_barred(table):
                continue
            told = closed(table)
            self.assertEqual(told.names(), table.names())
            for one, other in pairs_of(table):
                self.assertEqual(told.bound(one, other), tightest(table, one, other))
            self.assertEqual(closed(told), told)

    def test_many_tables_have_the_same_points(self):
        rolls = random.Random(3)
        for _ in range(60):
            table = random_table(rolls, ["a", "b"])
            if not is_barred(table):
                told = closed(table)
                for worths in points_between(["a", "b"], -5, 5, PARTS // 3):
                    self.assertEqual(has(told, worths), has(table, worths))

    def test_each_bound_is_come_to(self):
        rolls = random.Random(4)
        seen = {"upto": 0, "below": 0, None: 0}
        for round_ in range(250):
            table = random_table(rolls, ["a", "b", "c", "d", "e"][:round_ % 5 + 1], -3, 3, 0.4)
            if is_barred(table):
                continue
            told = closed(table)
            for one, other in pairs_of(table):
                bound = told.bound(one, other)
                seen[bound and bound[0]] += 1
                if bound is None:
                    self.assertIsNotNone(point(with_bound(told, other, one, ("upto", -99))))
                elif bound[0] == "upto":
                    self.assertIsNotNone(point(with_bound(told, other, one, ("upto", -bound[1]))))
                else:
                    self.assertIsNone(point(with_bound(told, other, one, ("upto", -bound[1]))))
                    near = with_bound(stretched(told, 9), other, one, ("upto", -9 * bound[1] + 1))
                    self.assertIsNotNone(point(near))
        self.assertGreater(min(seen.values()), 100)

    def test_worths_of_some_names_are_those_of_a_point(self):
        rolls = random.Random(5)
        tried = 0
        for _ in range(40):
            table = random_table(rolls, ["a", "b", "c"])
            if is_barred(table):
                continue
            told = closed(table)
            whole = stretched(told, PARTS)
            for left in (["a"], ["a", "b"], ["c", "b"]):
                some = {(one, other): told.bound(one, other) for one, other in pairs_of(Table(left, {}))}
                part = Table(left, some)
                for worths in points_between(left, -3, 3, 5):
                    if has(part, worths):
                        tried += 1
                        fixed = dict(whole.bounds())
                        for name, worth in worths.items():
                            fixed[name, ""] = ("upto", worth)
                            fixed["", name] = ("upto", -worth)
                        self.assertIsNotNone(point(Table(table.names(), fixed)))
        self.assertGreater(tried, 1000)

    def test_nothing_is_changed(self):
        table = Table(["a", "b"], EXAMPLE.bounds())
        closed(table)
        spread(table, "a", "b")
        within(table, table)
        self.assertEqual(table, EXAMPLE)


class SpreadTest(unittest.TestCase):
    def test_the_example(self):
        self.assertEqual(spread(EXAMPLE, "a", ""), (("from", 0), ("below", 3)))
        self.assertEqual(spread(EXAMPLE, "", "a"), (("above", -3), ("upto", 0)))
        self.assertEqual(spread(EXAMPLE, "b", "a"), (("from", 1), ("below", 4)))
        self.assertEqual(spread(EXAMPLE, "a", "b"), (("above", -4), ("upto", -1)))
        self.assertEqual(spread(table=EXAMPLE, other="a", one="b"), (("from", 1), ("below", 4)))

    def test_no_bounds(self):
        self.assertEqual(spread(Table(["a", "b"], {}), "a", "b"), (None, None))
        self.assertEqual(spread(Table(["a"], {("", "a"): ("below", 2)}), "a", ""), (("above", -2), None))
        self.assertEqual(spread(Table(["a"], {("a", ""): ("upto", -2)}), "a", ""), (None, ("upto", -2)))

    def test_many_tables(self):
        rolls = random.Random(6)
        lower = {"upto": "from", "below": "above"}
        for _ in range(150):
            table = random_table(rolls, ["a", "b", "c"])
            if is_barred(table):
                continue
            for one, other in pairs_of(table):
                back = tightest(table, other, one)
                least = None if back is None else (lower[back[0]], -back[1])
                told = spread(table, one, other)
                self.assertEqual(told, (least, tightest(table, one, other)))
                self.assertIsInstance(told, tuple)

    def test_errors_in_their_order(self):
        for table in (EXAMPLE, BARRED):
            for thing in strange_objects():
                if thing in ("", "a", "b"):
                    continue
                for work in (lambda: spread(table, thing, "a"), lambda: spread(table, "a", thing),
                             lambda: spread(table, thing, ["q"])):
                    error = error_of(work)
                    self.assertIs(type(error), NoName)
                    self.assertIs(error.name, thing)
            for name in ("", "a", "b"):
                error = error_of(lambda: spread(table, name, name))
                self.assertIs(type(error), SameName)
                self.assertEqual(error.name, name)
        self.assertEqual(error_of(lambda: spread(BARRED, "a", "")).ring, ("a", "b"))


class WithinTest(unittest.TestCase):
    def test_told_otherwise(self):
        self.assertIs(alike(EXAMPLE, closed(EXAMPLE)), True)
        self.assertIs(within(closed(EXAMPLE), EXAMPLE), True)
        wider = with_bound(EXAMPLE, "b", "", ("upto", 4))
        self.assertIs(within(EXAMPLE, wider), True)
        self.assertIs(within(wider, EXAMPLE), False)
        self.assertIs(alike(wider, EXAMPLE), False)
        self.assertIs(alike(EXAMPLE, wider), False)

    def test_without_a_point(self):
        other = Table(["a", "b"], {("a", ""): ("upto", -1), ("", "a"): ("upto", 0)})
        self.assertIs(alike(BARRED, other), True)
        self.assertIs(within(BARRED, other), True)
        self.assertIs(within(BARRED, EXAMPLE), True)
        self.assertIs(within(EXAMPLE, BARRED), False)
        self.assertIs(alike(EXAMPLE, BARRED), False)
        self.assertIs(alike(BARRED, EXAMPLE), False)

    def test_no_names(self):
        self.assertIs(alike(Table([], {}), Table([], {})), True)
        self.assertIs(within(Table([], {}), Table([], {})), True)

    def test_unlike_names(self):
        for names in (["a"], ["b", "a"], ["a", "c"], [], ["a", "b", "c"]):
            for first in (EXAMPLE, BARRED):
                for work in (alike, within):
                    self.assertIs(type(error_of(lambda: work(first, Table(names, {})))), UnlikeNames)
                    self.assertIs(type(error_of(lambda: work(Table(names, {}), first))), UnlikeNames)

    def test_many_tables(self):
        rolls = random.Random(7)
        points = points_between(["a", "b"], -6, 6, PARTS // 3)
        told = []
        for _ in range(60):
            table = random_table(rolls, ["a", "b"], -2, 2, rolls.choice([0.3, 0.6]))
            told.append((table, {at for at, worths in enumerate(points) if has(table, worths)}))
        lots = 0
        for one, ones in told:
            for other, others in told:
                self.assertIs(within(one, other), ones <= others)
                self.assertIs(alike(one, other), ones == others)
                lots += ones <= others
        self.assertGreater(lots, 200)
        self.assertTrue(all(is_closed(closed(one)) for one, ones in told if ones))


if __name__ == "__main__":
    unittest.main()
