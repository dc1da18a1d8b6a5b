"""[11], [12], and the example of [15]: changes of tables."""

import random
import unittest
from itertools import product

from rowsintime.changes import begun, beyond, both, cut, earlier, later, over, without
from rowsintime.closing import closed
from rowsintime.errors import BadBound, BadMost, BadNames, NoName, SameName, UnlikeNames
from rowsintime.points import point
from rowsintime.tables import Table
from tests.helper import (
    PARTS, error_of, has, is_barred, is_closed, keeps, looser, points_between, random_table, strange_objects, tightest)

EXAMPLE = Table(["a", "b"], {("a", "b"): ("upto", -1), ("b", ""): ("below", 4), ("", "a"): ("upto", 0)})
BARRED = Table(["a", "b"], {("a", "b"): ("below", 1), ("b", "a"): ("upto", -1)})
THIRD = PARTS // 3


def moved(worths, by):
    return {name: worth + by for name, worth in worths.items()}


def near(ends):
    """Worths such that what lies between ends, on thirds, has one of them."""
    return sorted({end + by for end in ends for by in (-1, 0, 1)} | {0})


def was_there(table, worths):
    """Whether worths, less one same fraction from 0 on, are a point."""
    ends = {worth - n * PARTS for worth in worths.values() for _, n in table.bounds().values()}
    ends |= {worth + n * PARTS for worth in worths.values() for _, n in table.bounds().values()}
    return any(has(table, moved(worths, -by)) for by in near(ends) if by >= 0)


def will_be_there(table, worths):
    """Whether worths, and one same fraction from 0 on more, are a point without a worth below 0."""
    ends = {n * PARTS - worth for worth in worths.values() for _, n in table.bounds().values()}
    ends |= {-n * PARTS - worth for worth in worths.values() for _, n in table.bounds().values()}
    return any(has(table, moved(worths, by)) for by in near(ends) if by >= 0)


def has_with_any(table, worths, name):
    """Whether worths are those of a point whose worth of a name may be any."""
    ends = set()
    for (one, other), (_, n) in table.bounds().items():
        if one == name:
            ends.add(worths.get(other, 0) + n * PARTS)
        if other == name:
            ends.add(worths.get(one, 0) - n * PARTS)
    return any(has(table, dict(worths, **{name: worth})) for worth in near(ends))


class ChangeCase(unittest.TestCase):
    def check_told(self, told, names, points, is_one):
        """That told is the closed table of just the points for which is_one is true."""
        if told is None:
            for worths in points:
                self.assertFalse(is_one(worths), worths)
            return
        self.assertEqual(told.names(), names)
        self.assertTrue(is_closed(told))
        for worths in points:
            self.assertEqual(has(told, worths), is_one(worths), worths)

    def check_none_of_barred(self, work):
        self.assertIsNone(work(BARRED))
        self.assertIsNone(work(Table(["a", "b"], {("a", ""): ("below", 0), ("", "a"): ("upto", 0)})))


class CutTest(ChangeCase):
    def test_ordinary(self):
        told = cut(EXAMPLE, "a", "", ("upto", 1))
        self.assertEqual(told, closed(Table(["a", "b"], {**EXAMPLE.bounds(), ("a", ""): ("upto", 1)})))
        self.assertEqual(cut(EXAMPLE, "a", "", None), closed(EXAMPLE))
        self.assertEqual(cut(EXAMPLE, "a", "", ["below", 3]), closed(EXAMPLE))
        self.assertEqual(cut(EXAMPLE, "a", "", ("upto", 3)), closed(EXAMPLE))
        self.assertIsNone(cut(EXAMPLE, "", "a", ("upto", -3)))
        self.assertEqual(cut(EXAMPLE, "", "a", ("below", -2)).bound("b", ""), ("below", 4))
        self.assertEqual(cut(bound=("upto", 1), other="", one="a", table=EXAMPLE), told)
        self.check_none_of_barred(lambda table: cut(table, "a", "b", None))

    def test_many_tables(self):
        rolls = random.Random(1)
        points = points_between(["a", "b"], -6, 6, THIRD)
        for _ in range(80):
            table = random_table(rolls, ["a", "b"], -2, 2)
            one, other = rolls.sample(["", "a", "b"], 2)
            bound = (rolls.choice(["upto", "below"]), rolls.randint(-2, 2))
            self.check_told(
                cut(table, one, other, bound), ["a", "b"], points,
                lambda worths: has(table, worths) and keeps(bound, worths.get(one, 0) - worths.get(other, 0)))

    def test_errors_in_their_order(self):
        for table in (EXAMPLE, BARRED):
            for thing in strange_objects():
                if thing not in ("", "a", "b"):
                    for work in (lambda: cut(table, thing, thing, 1), lambda: cut(table, "a", thing, 1)):
                        error = error_of(work)
                        self.assertIs(type(error), NoName)
                        self.assertIs(error.name, thing)
                if thing is not None and thing not in (("upto", 1), ["below", 2]):
                    error = error_of(lambda: cut(table, "a", "b", thing))
                    self.assertIs(type(error), BadBound)
                    self.assertIs(error.thing, thing)
            error = error_of(lambda: cut(table, "b", "b", 1))
            self.assertIs(type(error), SameName)
            self.assertEqual(error.name, "b")


class LaterTest(ChangeCase):
    def test_ordinary(self):
        told = later(EXAMPLE)
        self.assertIsNone(told.bound("a", ""))
        self.assertIsNone(told.bound("b", ""))
        self.assertEqual(told.bounds(), {("", "a"): ("upto", 0), ("", "b"): ("upto", -1), ("a", "b"): ("upto", -1),
                                         ("b", "a"): ("below", 4)})
        self.assertEqual(later(Table([], {})), Table([], {}))
        self.check_none_of_barred(later)

    def test_worths_below_zero(self):
        told = later(Table(["a"], {("a", ""): ("upto", -2), ("", "a"): ("below", 3)}))
        self.assertEqual(told.bounds(), {("", "a"): ("below", 3)})

    def test_many_tables(self):
        rolls = random.Random(2)
        points = points_between(["a", "b"], -4, 4, THIRD)
        for _ in range(25):
            table = random_table(rolls, ["a", "b"], -2, 2, 0.6)
            self.check_told(later(table), ["a", "b"], points, lambda worths: was_there(table, worths))

    def test_three_names(self):
        rolls = random.Random(3)
        points = points_between(["a", "b", "c"], -1, 3, 8)
        for _ in range(15):
            table = random_table(rolls, ["a", "b", "c"], -1, 2, 0.4)
            self.check_told(later(table), ["a", "b", "c"], points, lambda worths: was_there(table, worths))


class EarlierTest(ChangeCase):
    def test_ordinary(self):
        told = earlier(Table(["a", "b"], {("", "a"): ("upto", -3), ("a", "b"): ("upto", 2), ("b", ""): ("below", 4)}))
        self.assertEqual(told.bounds(), {
            ("", "a"): ("upto", 0), ("", "b"): ("upto", 0), ("a", ""): ("below", 6), ("a", "b"): ("upto", 2),
            ("b", ""): ("below", 4), ("b", "a"): ("below", 1)})
        self.assertEqual(earlier(Table([], {})), Table([], {}))
        self.check_none_of_barred(earlier)

    def test_worths_below_zero_do_not_count(self):
        self.assertIsNone(earlier(Table(["a"], {("a", ""): ("below", 0)})))
        told = earlier(Table(["a"], {("a", ""): ("upto", 0)}))
        self.assertEqual(told.bounds(), {("", "a"): ("upto", 0), ("a", ""): ("upto", 0)})
        # b is 5 more than a, so it is 5 at least as long as a is not below 0.
        told = earlier(Table(["a", "b"], {("a", "b"): ("upto", -5), ("b", "a"): ("upto", 5)}))
        self.assertEqual(told.bound("", "b"), ("upto", -5))

    def test_many_tables(self):
        rolls = random.Random(4)
        points = points_between(["a", "b"], -2, 5, THIRD)
        for _ in range(40):
            table = random_table(rolls, ["a", "b"], -2, 2, 0.6)
            self.check_told(earlier(table), ["a", "b"], points,
                            lambda worths: min(worths.values()) >= 0 and will_be_there(table, worths))

    def test_three_names(self):
        rolls = random.Random(5)
        points = points_between(["a", "b", "c"], -1, 3, 8)
        for _ in range(15):
            table = random_table(rolls, ["a", "b", "c"], -2, 3, 0.4)
            self.check_told(earlier(table), ["a", "b", "c"], points,
                            lambda worths: min(worths.values()) >= 0 and will_be_there(table, worths))


class BegunTest(ChangeCase):
    def test_ordinary(self):
        told = begun(EXAMPLE, ["b"])
        self.assertEqual(told.bound("b", "a"), ("upto", 0))
        self.assertEqual(told.bound("a", "b"), ("below", 3))
        self.assertEqual(told.bound("b", ""), ("upto", 0))
        self.assertEqual(told.bound("", "b"), ("upto", 0))
        self.assertEqual(begun(EXAMPLE, ("b", "a")), Table(["a", "b"], {
            (one, other): ("upto", 0) for one in ("", "a", "b") for other in ("", "a", "b") if one != other}))
        self.assertEqual(begun(EXAMPLE, []), closed(EXAMPLE))
        self.assertEqual(begun(Table([], {}), []), Table([], {}))
        self.check_none_of_barred(lambda table: begun(table, ["a"]))
        self.check_none_of_barred(lambda table: begun(table, []))

    def test_many_tables(self):
        rolls = random.Random(6)
        points = points_between(["a", "b"], -5, 5, THIRD)
        for _ in range(40):
            table = random_table(rolls, ["a", "b"], -2, 2, 0.6)
            for name in ("a", "b"):
                self.check_told(begun(table, [name]), ["a", "b"], points,
                                lambda worths: worths[name] == 0 and has_with_any(table, worths, name))

    def test_three_names(self):
        rolls = random.Random(7)
        for _ in range(60):
            table = random_table(rolls, ["a", "b", "c"], -2, 3, 0.5)
            if is_barred(table):
                continue
            told = begun(table, ["c", "a"])
            self.assertEqual(told, begun(begun(table, ["a"]), ["c"]))
            for one, other in (("", "b"), ("b", "")):
                self.assertEqual(told.bound(one, other), tightest(table, one, other))
            self.assertEqual(told.bound("a", "c"), ("upto", 0))
            self.assertTrue(is_closed(told))


class WithoutTest(ChangeCase):
    def test_ordinary(self):
        told = without(EXAMPLE, ["b"])
        self.assertEqual(told, Table(["a"], {("", "a"): ("upto", 0), ("a", ""): ("below", 3)}))
        self.assertEqual(without(EXAMPLE, ("a", "b")), Table([], {}))
        self.assertEqual(without(EXAMPLE, ()), closed(EXAMPLE))
        self.check_none_of_barred(lambda table: without(table, ["a", "b"]))
        self.check_none_of_barred(lambda table: without(table, []))

    def test_the_other_names_stay_in_order(self):
        self.assertEqual(without(Table(["d", "a", "c", "b"], {}), ["b", "a"]).names(), ["d", "c"])

    def test_many_tables(self):
        rolls = random.Random(8)
        for _ in range(40):
            table = random_table(rolls, ["a", "b"], -2, 2, 0.6)
            for name, left in (("a", "b"), ("b", "a")):
                self.check_told(without(table, [name]), [left], points_between([left], -9, 9, THIRD),
                                lambda worths: has_with_any(table, worths, name))

    def test_three_names(self):
        rolls = random.Random(9)
        points = points_between(["a", "c"], -4, 4, THIRD)
        for _ in range(25):
            table = random_table(rolls, ["a", "b", "c"], -2, 2, 0.5)
            self.check_told(without(table, ["b"]), ["a", "c"], points, lambda worths: has_with_any(table, worths, "b"))


class NamesErrorsTest(unittest.TestCase):
    def check(self, names, index):
        for work in (begun, without):
            for table in (EXAMPLE, BARRED):
                error = error_of(lambda: work(table, names))
                self.assertIs(type(error), BadNames)
                self.assertEqual(error.index, index)

    def test_bad_names(self):
        self.check(["a", "b", "a"], 2)
        self.check(("b", "b", "q"), 1)
        self.check(["b", ""], 1)
        self.check(["c", 3], 0)
        for thing in strange_objects():
            if not isinstance(thing, (list, tuple)):
                self.check(thing, 0)
            if thing != "a":
                self.check(["b", thing, "b"], 1)

    def test_nothing_is_changed(self):
        names = ["b", "a"]
        begun(EXAMPLE, names)
        without(EXAMPLE, names)
        self.assertEqual(names, ["b", "a"])


class BothAndOverTest(ChangeCase):
    def test_ordinary(self):
        one = Table(["a"], {("a", ""): ("upto", 2), ("", "a"): ("upto", 0)})
        other = Table(["a"], {("a", ""): ("below", 2), ("", "a"): ("upto", 3)})
        self.assertEqual(both(one, other).bounds(), {("", "a"): ("upto", 0), ("a", ""): ("below", 2)})
        self.assertEqual(over(one, other).bounds(), {("", "a"): ("upto", 3), ("a", ""): ("upto", 2)})
        self.assertEqual(both(Table([], {}), Table([], {})), Table([], {}))
        self.assertEqual(over(Table([], {}), Table([], {})), Table([], {}))

    def test_over_fills_what_lies_between(self):
        one = Table(["a"], {("a", ""): ("upto", 0), ("", "a"): ("upto", 0)})
        other = Table(["a"], {("a", ""): ("upto", 5), ("", "a"): ("below", -4)})
        self.assertEqual(over(one, other).bounds(), {("", "a"): ("upto", 0), ("a", ""): ("upto", 5)})
        self.assertIsNone(both(one, other))

    def test_without_a_point(self):
        self.assertIsNone(both(BARRED, EXAMPLE))
        self.assertIsNone(both(EXAMPLE, BARRED))
        self.assertEqual(over(BARRED, EXAMPLE), closed(EXAMPLE))
        self.assertEqual(over(EXAMPLE, BARRED), closed(EXAMPLE))
        self.assertIsNone(over(BARRED, BARRED))

    def test_unlike_names(self):
        for names in (["a"], ["b", "a"], ["a", "c"], [], ["a", "b", "c"]):
            for table in (EXAMPLE, BARRED):
                for work in (both, over):
                    self.assertIs(type(error_of(lambda: work(table, Table(names, {})))), UnlikeNames)
                    self.assertIs(type(error_of(lambda: work(Table(names, {}), table))), UnlikeNames)

    def test_many_tables(self):
        rolls = random.Random(10)
        points = points_between(["a", "b"], -5, 5, THIRD)
        for _ in range(60):
            one = random_table(rolls, ["a", "b"], -2, 3, 0.5)
            other = random_table(rolls, ["a", "b"], -2, 3, 0.5)
            self.check_told(both(one, other), ["a", "b"], points, lambda worths: has(one, worths) and has(other, worths))

    def test_over_has_the_looser_bounds(self):
        rolls = random.Random(11)
        for _ in range(150):
            one = random_table(rolls, ["a", "b", "c"], -2, 3, 0.5)
            other = random_table(rolls, ["a", "b", "c"], -2, 3, 0.5)
            if is_barred(one) or is_barred(other):
                continue
            told = over(one, other)
            self.assertTrue(is_closed(told))
            for first, second in product(["", "a", "b", "c"], repeat=2):
                if first != second:
                    self.assertEqual(told.bound(first, second),
                                     looser(tightest(one, first, second), tightest(other, first, second)))


def region(worths, most):
    """What cuts of a name and the begin by numbers up to its most, whatever time passes, can tell of worths."""
    near_ones = [name for name in worths if worths[name] <= most[name] * PARTS]
    parts = sorted({worths[name] % PARTS for name in near_ones} | {0})
    told = {name: (worths[name] // PARTS, parts.index(worths[name] % PARTS)) for name in near_ones}
    return [told.get(name) for name in worths]


class BeyondTest(ChangeCase):
    def test_ordinary(self):
        table = Table(["a", "b"], {("a", ""): ("upto", 9), ("", "a"): ("upto", -7), ("b", ""): ("upto", 2),
                                   ("", "b"): ("upto", -1)})
        told = beyond(table, {"a": 4, "b": 2})
        self.assertEqual(told.bounds(), {("", "a"): ("below", -5), ("", "b"): ("upto", -1), ("b", ""): ("upto", 2),
                                         ("b", "a"): ("below", -4)})
        # The bound of b less a is not beyond 5, so it stays, and bounds a by way of b.
        told = beyond(table, {"a": 5, "b": 2})
        self.assertEqual(told.bounds(), {("", "a"): ("upto", -6), ("", "b"): ("upto", -1), ("b", ""): ("upto", 2),
                                         ("b", "a"): ("upto", -5)})
        self.assertEqual(beyond(table, {"b": 9, "a": 9, "c": None, None: 1}), closed(table))

    def test_at_the_most_itself(self):
        table = Table(["a"], {("a", ""): ("upto", 3), ("", "a"): ("upto", -3)})
        self.assertEqual(beyond(table, {"a": 3}), table)
        self.assertEqual(beyond(table, {"a": 2}).bounds(), {("", "a"): ("below", -2)})
        above = Table(["a"], {("a", ""): ("below", 4), ("", "a"): ("below", -3)})
        self.assertEqual(beyond(above, {"a": 3}).bounds(), {("", "a"): ("below", -3)})
        self.assertEqual(beyond(above, {"a": 4}), above)

    def test_no_names_and_no_points(self):
        self.assertEqual(beyond(Table([], {}), {}), Table([], {}))
        self.assertEqual(beyond(Table([], {}), {"a": -1}), Table([], {}))
        self.check_none_of_barred(lambda table: beyond(table, {"a": 0, "b": 0}))

    def test_as_it_is_told(self):
        rolls = random.Random(12)
        for _ in range(200):
            names = ["a", "b", "c"]
            table = random_table(rolls, names, -4, 4, 0.5)
            if is_barred(table):
                continue
            most = {name: rolls.randint(0, 3) for name in names}
            bounds = {}
            for one, other in product([""] + names, repeat=2):
                if one == other or tightest(table, one, other) is None:
                    continue
                word, n = tightest(table, one, other)
                if one and n > most[one]:
                    continue
                if other and (n < -most[other] or (n == -most[other] and word == "below")):
                    word, n = ("below", -most[other])
                bounds[one, other] = (word, n)
            self.assertEqual(beyond(table, most), closed(Table(names, bounds)))

    def test_what_is_added_is_not_told_from_what_was_there(self):
        rolls = random.Random(13)
        names = ["a", "b"]
        points = points_between(names, 0, 6, THIRD)
        great = points_between(names, 0, 12, THIRD)
        added = 0
        for _ in range(60):
            table = random_table(rolls, names, -4, 4, 0.6)
            table = both(table, Table(names, {("", "a"): ("upto", 0), ("", "b"): ("upto", 0)}))
            if table is None:
                continue
            most = {name: rolls.randint(0, 3) for name in names}
            told = beyond(table, most)
            self.assertTrue(is_closed(told))
            there = [region(worths, most) for worths in great if has(table, worths)]
            for worths in points:
                self.assertTrue(has(told, worths) or not has(table, worths))
                if has(told, worths):
                    self.assertIn(region(worths, most), there)
                    added += not has(table, worths)
        self.assertGreater(added, 500)

    def test_bad_most(self):
        names = ["b", "a"]
        barred = Table(names, {("a", ""): ("upto", -1), ("", "a"): ("upto", 0)})
        for table in (Table(names, {}), barred):
            for thing in strange_objects():
                if not isinstance(thing, dict):
                    self.check_most(table, thing, None)
                if not isinstance(thing, int) or isinstance(thing, bool) or thing < 0:
                    self.check_most(table, {"b": thing, "a": 1}, "b")
                    self.check_most(table, {"a": thing, "b": 1}, "a")
                    self.check_most(table, {"a": thing, "b": thing}, "b")
            self.check_most(table, {}, "b")
            self.check_most(table, {"b": 0}, "a")
            self.check_most(table, {"": 0, "b": 0, "c": 2}, "a")
        self.check_most(Table([], {}), None, None)
        self.check_most(Table([], {}), [], None)

    def check_most(self, table, most, name):
        error = error_of(lambda: beyond(table, most))
        self.assertIs(type(error), BadMost)
        self.assertEqual(error.name, name)


class ToldAgainTest(unittest.TestCase):
    def test_told_tables_may_be_handed_in_again(self):
        rolls = random.Random(14)
        names = ["a", "b", "c", "d", "e"]
        works = (lambda one: over(one, begun(one, ["b"])), later, lambda one: cut(one, "a", "e", ("below", 10 ** 12)),
                 lambda one: begun(one, ["c", "a"]), lambda one: beyond(one, {name: 10 ** 12 for name in names}), earlier)
        for _ in range(80):
            table = random_table(rolls, names, -10 ** 12, 10 ** 12, 0.2)
            for work in works:
                if point(table) is None:
                    self.assertTrue(is_barred(table))
                    break
                told = work(table)
                if told is not None:
                    self.assertTrue(is_closed(told))
                    table = told

    def test_the_same_one_each_time_and_nothing_changed(self):
        table = Table(["a", "b"], EXAMPLE.bounds())
        works = [lambda: later(table), lambda: earlier(table), lambda: begun(table, ["a"]), lambda: without(table, ["a"]),
                 lambda: both(table, table), lambda: over(table, table), lambda: beyond(table, {"a": 1, "b": 0})]
        for work in works:
            self.assertEqual(work(), work())
            self.assertEqual(table, EXAMPLE)


if __name__ == "__main__":
    unittest.main()
