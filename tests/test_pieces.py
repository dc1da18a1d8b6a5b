"""[13], [14]: tables taken from one another, put together, and lean ones."""

import random
import unittest
from itertools import combinations

from rowsintime.changes import over
from rowsintime.closing import alike, closed
from rowsintime.errors import BadTable, Empty, UnlikeNames
from rowsintime.pieces import joined, lean, outside, rest
from rowsintime.points import is_point, is_ring, point
from rowsintime.tables import Table
from tests.helper import (
    PARTS, error_of, has, is_barred, is_closed, parts_of, plus, points_between, random_table, strange_objects, tightest,
    tighter)

BARRED = Table(["a", "b"], {("a", "b"): ("below", 1), ("b", "a"): ("upto", -1)})
THIRD = PARTS // 3


def between(name, lower, upper):
    """The bounds of a name from a lower to an upper number."""
    return {("", name): ("upto", -lower), (name, ""): ("upto", upper)}


class RestTest(unittest.TestCase):
    def check(self, one, other, points):
        told = rest(one, other)
        self.assertIsInstance(told, list)
        for piece in told:
            self.assertEqual(piece.names(), one.names())
            self.assertTrue(is_closed(piece))
        for worths in points:
            held = sum(has(piece, worths) for piece in told)
            self.assertEqual(held, int(has(one, worths) and not has(other, worths)))
        return told

    def test_ordinary(self):
        one = Table(["a"], between("a", 0, 5))
        other = Table(["a"], between("a", 2, 3))
        told = self.check(one, other, points_between(["a"], -1, 6, 1))
        self.assertEqual(len(told), 2)
        self.assertEqual(rest(one, one), [])
        self.assertEqual(rest(other, one), [])
        self.assertEqual(rest(Table([], {}), Table([], {})), [])

    def test_without_a_point(self):
        one = Table(["a", "b"], {**between("a", 0, 1), **between("b", 0, 2)})
        self.assertEqual(rest(BARRED, one), [])
        self.assertEqual(rest(BARRED, BARRED), [])
        self.check(one, BARRED, points_between(["a", "b"], -1, 3, THIRD))

    def test_unlike_names(self):
        for names in (["a"], ["b", "a"], ["a", "c"], [], ["a", "b", "c"]):
            for table in (Table(["a", "b"], {}), BARRED):
                for work in (rest, joined):
                    self.assertIs(type(error_of(lambda: work(table, Table(names, {})))), UnlikeNames)
                    self.assertIs(type(error_of(lambda: work(Table(names, {}), table))), UnlikeNames)

    def test_many_tables(self):
        rolls = random.Random(1)
        points = points_between(["a", "b"], -5, 5, THIRD)
        for _ in range(60):
            one = random_table(rolls, ["a", "b"], -2, 3, 0.4)
            self.check(one, random_table(rolls, ["a", "b"], -2, 3, 0.6), points)

    def test_three_names(self):
        rolls = random.Random(2)
        points = points_between(["a", "b", "c"], -2, 2, 6)
        for _ in range(12):
            one = random_table(rolls, ["a", "b", "c"], -2, 2, 0.3)
            self.check(one, random_table(rolls, ["a", "b", "c"], -1, 2, 0.8), points)

    def test_five_names(self):
        rolls = random.Random(3)
        names = ["a", "b", "c", "d", "e"]
        for _ in range(15):
            one = random_table(rolls, names, -3, 3, 0.2)
            other = random_table(rolls, names, -1, 4, 0.5)
            told = rest(one, other)
            for piece in told:
                found = point(piece)
                self.assertTrue(is_point(one, found))
                self.assertFalse(is_point(other, found))
            for first, second in combinations(told, 2):
                common = {pair: tighter(first.bounds().get(pair), second.bounds().get(pair))
                          for pair in {**first.bounds(), **second.bounds()}}
                self.assertIsNone(point(Table(names, common)))


class OutsideTest(unittest.TestCase):
    def check(self, one, others, points):
        found = outside(one, others)
        if found is None:
            for worths in points:
                self.assertFalse(has(one, worths) and not any(has(other, worths) for other in others))
        else:
            self.assertEqual(list(found), one.names())
            self.assertTrue(is_point(one, found))
            self.assertTrue(has(one, parts_of(found)))
            for other in others:
                self.assertFalse(is_point(other, found))
        return found

    def test_ordinary(self):
        one = Table(["a"], between("a", 0, 5))
        low = Table(["a"], {("", "a"): ("upto", 0), ("a", ""): ("below", 2)})
        high = Table(["a"], {("", "a"): ("below", -2)})
        self.assertEqual(outside(one, [low, high]), {"a": (2, 1)})
        self.assertEqual(outside(one, (high, low)), {"a": (2, 1)})
        self.assertIsNone(outside(one, [low, high, Table(["a"], between("a", 2, 2))]))
        self.assertTrue(is_point(one, outside(one, [])))
        self.assertIsNone(outside(one, [one]))
        self.assertEqual(outside(Table([], {}), []), {})
        self.assertIsNone(outside(Table([], {}), [Table([], {})]))

    def test_without_a_point(self):
        free = Table(["a", "b"], {})
        self.assertIsNone(outside(BARRED, []))
        self.assertIsNone(outside(BARRED, [free]))
        self.assertIsNone(outside(free, [BARRED, free]))
        self.assertIsNotNone(self.check(free, [BARRED, BARRED], []))

    def test_many_tables(self):
        rolls = random.Random(4)
        points = points_between(["a", "b"], -7, 7, THIRD)
        found = {True: 0, False: 0}
        for _ in range(150):
            one = random_table(rolls, ["a", "b"], -1, 2, 0.6)
            others = [random_table(rolls, ["a", "b"], -1, 3, rolls.choice([0.1, 0.3]))
                      for _ in range(rolls.randint(0, 5))]
            found[self.check(one, others, points) is None] += 1
            self.assertEqual(outside(one, others), outside(Table(("a", "b"), one.bounds()), tuple(others)))
        self.assertGreater(min(found.values()), 30)

    def test_three_names_and_five_others(self):
        rolls = random.Random(5)
        points = points_between(["a", "b", "c"], -2, 4, 12)
        for _ in range(30):
            others = [random_table(rolls, ["a", "b", "c"], -1, 9, 0.5) for _ in range(5)]
            self.check(Table(["a", "b", "c"], {}), others, points)

    def test_bad_tables(self):
        for one in (Table(["a", "b"], {}), BARRED):
            for thing in strange_objects():
                if not isinstance(thing, (list, tuple)):
                    self.check_bad(one, thing, 0)
                self.check_bad(one, [one, thing, 5], 1)
            for names in (["a"], ["b", "a"], ["a", "c"], []):
                self.check_bad(one, (BARRED, one, Table(names, {})), 2)

    def check_bad(self, one, others, index):
        error = error_of(lambda: outside(one, others))
        self.assertIs(type(error), BadTable)
        self.assertEqual(error.index, index)


class JoinedTest(unittest.TestCase):
    def test_ordinary(self):
        low = Table(["a"], between("a", 0, 2))
        high = Table(["a"], {("", "a"): ("below", -2), ("a", ""): ("below", 5)})
        self.assertEqual(joined(low, high).bounds(), {("", "a"): ("upto", 0), ("a", ""): ("below", 5)})
        self.assertEqual(joined(high, low).bounds(), {("", "a"): ("upto", 0), ("a", ""): ("below", 5)})
        open_low = Table(["a"], {("", "a"): ("upto", 0), ("a", ""): ("below", 2)})
        self.assertIsNone(joined(open_low, high))
        self.assertEqual(joined(Table([], {}), Table([], {})), Table([], {}))

    def test_two_squares(self):
        one = Table(["a", "b"], {**between("a", 0, 2), **between("b", 0, 2)})
        self.assertIsNone(joined(one, Table(["a", "b"], {**between("a", 1, 3), **between("b", 1, 3)})))
        beside = Table(["a", "b"], {**between("a", 1, 3), **between("b", 0, 2)})
        self.assertEqual(joined(one, beside).bound("a", ""), ("upto", 3))

    def test_without_a_point(self):
        table = Table(["a", "b"], {("a", "b"): ("upto", 3), ("b", ""): ("upto", 1)})
        self.assertEqual(joined(BARRED, table), closed(table))
        self.assertEqual(joined(table, BARRED), closed(table))
        self.assertIsNone(joined(BARRED, BARRED))

    def test_many_tables(self):
        rolls = random.Random(6)
        points = points_between(["a", "b"], -7, 7, THIRD)
        found = {True: 0, False: 0}
        for _ in range(120):
            one = random_table(rolls, ["a", "b"], -1, 2, 0.5)
            other = random_table(rolls, ["a", "b"], -1, 2, 0.5)
            told = joined(one, other)
            whole = over(one, other)
            found[told is None] += 1
            if told is not None:
                self.assertTrue(is_closed(told))
                for worths in points:
                    self.assertEqual(has(told, worths), has(one, worths) or has(other, worths))
            elif whole is not None:
                self.assertTrue(any(has(whole, worths) and not has(one, worths) and not has(other, worths)
                                    for worths in points))
        self.assertGreater(min(found.values()), 20)


def lots_together(table):
    """The lots of names, the begin among them, whose differences have one worth in all points."""
    lots = []
    for spot in [""] + table.names():
        for lot in lots:
            if plus(tightest(table, spot, lot[0]), tightest(table, lot[0], spot)) == ("upto", 0):
                lot.append(spot)
                break
        else:
            lots.append([spot])
    return lots


class LeanTest(unittest.TestCase):
    def test_ordinary(self):
        table = closed(Table(["a", "b"], {("a", "b"): ("upto", -1), ("b", ""): ("below", 4), ("", "a"): ("upto", 0)}))
        self.assertEqual(lean(table).bounds(), {("", "a"): ("upto", 0), ("a", "b"): ("upto", -1), ("b", ""): ("below", 4)})
        self.assertEqual(lean(Table([], {})), Table([], {}))
        self.assertEqual(lean(Table(["a", "b"], {})), Table(["a", "b"], {}))

    def test_without_a_point(self):
        for table in (BARRED, Table(["a"], {("a", ""): ("below", 0), ("", "a"): ("upto", 0)})):
            error = error_of(lambda: lean(table))
            self.assertIs(type(error), Empty)
            self.assertTrue(is_ring(table, error.ring))

    def test_all_go_together(self):
        names = ["a", "b", "c", "d", "e"]
        table = Table(names, {(one, other): ("upto", 0) for one in [""] + names for other in [""] + names if one != other})
        self.assertEqual(len(lean(table).bounds()), 6)
        self.assertTrue(alike(lean(table), table))

    def test_no_table_tells_fewer(self):
        rolls = random.Random(7)
        for _ in range(60):
            table = random_table(rolls, ["a", "b"], -1, 2, 0.7)
            if is_barred(table):
                continue
            told = lean(table)
            self.assertEqual(told.names(), table.names())
            self.assertTrue(alike(told, table))
            # Of a table with the same points each bound may be told as tight as can be: so these are all to be tried.
            bounds = closed(table).bounds()
            for pairs in combinations(bounds, max(0, len(told.bounds()) - 1)):
                self.assertFalse(alike(Table(["a", "b"], {pair: bounds[pair] for pair in pairs}), table))

    def test_many_tables_as_it_is_told(self):
        rolls = random.Random(8)
        together = 0
        for round_ in range(200):
            table = random_table(rolls, ["a", "b", "c", "d"][:round_ % 3 + 2], -1, 1, 0.4)
            one, other = rolls.sample([""] + table.names(), 2)
            by = rolls.randint(-1, 1)
            table = Table(table.names(), {**table.bounds(), (one, other): ("upto", by), (other, one): ("upto", -by)})
            if is_barred(table):
                continue
            told = lean(table)
            self.assertTrue(alike(told, table))
            lots = lots_together(table)
            together += len(lots) <= len(table)
            for lot in lots:
                within = [pair for pair in told.bounds() if pair[0] in lot and pair[1] in lot]
                self.assertEqual(len(within), len(lot) if len(lot) > 1 else 0)
                self.assertEqual(sorted(one for one, _ in within), sorted(other for _, other in within))
                for other in lots:
                    if other != lot:
                        between_them = [pair for pair in told.bounds() if pair[0] in lot and pair[1] in other]
                        self.assertEqual(len(between_them), self.needed(table, lots, lot[0], other[0]))
        self.assertGreater(together, 30)

    def needed(self, table, lots, one, other):
        bound = tightest(table, one, other)
        if bound is None:
            return 0
        for lot in lots:
            if lot[0] not in (one, other):
                by_way = plus(tightest(table, one, lot[0]), tightest(table, lot[0], other))
                if tighter(by_way, bound) == by_way:
                    return 0
        return 1

    def test_five_names(self):
        rolls = random.Random(9)
        for _ in range(40):
            table = random_table(rolls, ["a", "b", "c", "d", "e"], -1, 2, 0.3)
            if not is_barred(table):
                self.assertTrue(alike(lean(table), table))
                self.assertEqual(lean(table), lean(closed(table)))

    def test_nothing_is_changed(self):
        table = Table(["a", "b"], {("a", "b"): ("upto", 5), ("b", ""): ("upto", 1), ("a", ""): ("upto", 9)})
        bounds = table.bounds()
        lean(table)
        rest(table, BARRED)
        outside(table, [BARRED])
        joined(table, BARRED)
        self.assertEqual(table.bounds(), bounds)


if __name__ == "__main__":
    unittest.main()
