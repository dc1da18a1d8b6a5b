"""[8], [9], and the example of [15] that speaks of a ring."""

import random
import unittest
from itertools import permutations
from math import gcd

from rowsintime.points import is_point, is_ring, point, ring
from rowsintime.tables import Table
from tests.helper import (
    fractions_of, has, is_barred, keeps, parts_of, points_between, random_table, strange_objects, sum_along)


def barring_rings(table):
    """All rings that bar a table, found by trying all."""
    spots = [""] + table.names()
    found = []
    for size in range(2, len(spots) + 1):
        for way in permutations(spots, size):
            if min(way, key=spots.index) == way[0] and not keeps(sum_along(table, list(way) + [way[0]]), 0):
                found.append(way)
    return found


class IsPointTest(unittest.TestCase):
    def test_bounds(self):
        table = Table(["a", "b"], {("a", "b"): ("upto", -1), ("b", ""): ("below", 4), ("", "a"): ("upto", 0)})
        self.assertIs(is_point(table, {"a": (0, 1), "b": (1, 1)}), True)
        self.assertIs(is_point(table, {"b": (1, 1), "a": (0, 1)}), True)
        self.assertIs(is_point(table, {"a": [5, 2], "b": (7, 2)}), True)
        self.assertIs(is_point(table, {"a": (20, 8), "b": [70, 20]}), True)
        self.assertIs(is_point(table, {"a": (3, 1), "b": (4, 1)}), False)
        self.assertIs(is_point(table, {"a": (0, 1), "b": (9, 10)}), False)
        self.assertIs(is_point(table, {"a": (-1, 9), "b": (2, 1)}), False)

    def test_the_names_are_just_those_of_the_table(self):
        table = Table(["a", "b"], {})
        self.assertIs(is_point(table, {"a": (0, 1)}), False)
        self.assertIs(is_point(table, {"a": (0, 1), "b": (0, 1), "c": (0, 1)}), False)
        self.assertIs(is_point(table, {"a": (0, 1), "": (0, 1)}), False)
        self.assertIs(is_point(table, {"a": (0, 1), "b": (0, 1), "": (0, 1)}), False)
        self.assertIs(is_point(table, {"a": (-7, 3), "b": (10 ** 20, 3)}), True)
        self.assertIs(is_point(table, {"a": (0, 1), None: (0, 1)}), False)

    def test_worths_are_fractions(self):
        table = Table(["a"], {})
        for thing in strange_objects():
            is_pair = thing in ([1, 2], (0, 1)) and not isinstance(thing[0], bool)
            self.assertIs(is_point(table, {"a": thing}), is_pair)

    def test_no_names(self):
        self.assertIs(is_point(Table([], {}), {}), True)
        self.assertIs(is_point(Table([], {}), {"a": (0, 1)}), False)
        self.assertIs(is_point(Table([], {}), []), False)

    def test_any_objects(self):
        for thing in strange_objects():
            self.assertIs(is_point(Table(["a"], {}), thing), thing == {"a": (0, 1)})

    def test_nothing_is_changed(self):
        thing = {"b": [2, 4], "a": (0, 5)}
        is_point(Table(["a", "b"], {}), thing)
        self.assertEqual(list(thing.items()), [("b", [2, 4]), ("a", (0, 5))])

    def test_many_tables(self):
        rolls = random.Random(8)
        for _ in range(60):
            table = random_table(rolls, ["a", "b"])
            for worths in points_between(["a", "b"], -2, 2, 4):
                self.assertIs(is_point(table, fractions_of(worths)), has(table, worths))


class PointAndRingTest(unittest.TestCase):
    def check(self, table):
        found, bar = point(table), ring(table)
        self.assertEqual(found is None, bar is not None)
        if found is not None:
            self.assertEqual(list(found), table.names())
            self.assertTrue(is_point(table, found))
            self.assertTrue(has(table, parts_of(found)))
            for worth in found.values():
                self.assertIsInstance(worth, tuple)
                self.assertEqual(gcd(*worth), 1)
                self.assertGreaterEqual(worth[1], 1)
        else:
            self.assertIsInstance(bar, tuple)
            self.assertIs(is_ring(table, bar), True)
            self.assertIs(is_ring(table, list(bar)), True)

    def test_no_names(self):
        self.assertEqual(point(Table([], {})), {})
        self.assertIsNone(ring(Table([], {})))

    def test_no_bounds(self):
        self.check(Table(["a", "b", "c"], {}))
        self.check(Table(["a"], {("a", ""): None}))

    def test_the_example(self):
        table = Table(["a", "b"], {("a", "b"): ("below", 1), ("b", "a"): ("upto", -1)})
        self.assertIsNone(point(table))
        self.assertEqual(ring(table), ("a", "b"))
        self.assertIs(is_ring(table, ("a", "b")), True)
        self.assertIs(is_ring(table, ("b", "a")), False)

    def test_below_and_upto_at_one_number(self):
        for word, other, is_there in (("upto", "upto", True), ("upto", "below", False), ("below", "below", False)):
            table = Table(["a"], {("a", ""): (word, 2), ("", "a"): (other, -2)})
            self.assertEqual(point(table) is not None, is_there)
            self.check(table)
        self.assertEqual(point(Table(["a"], {("a", ""): ("upto", 2), ("", "a"): ("upto", -2)})), {"a": (2, 1)})

    def test_only_fractions_keep_it(self):
        table = Table(["a", "b", "c"], {("a", ""): ("below", 1), ("b", "a"): ("below", 0), ("c", "b"): ("below", 0),
                                        ("", "c"): ("below", 0)})
        self.check(table)
        worths = [top * 10 ** 6 // bottom for top, bottom in point(table).values()]
        self.assertTrue(10 ** 6 > worths[0] > worths[1] > worths[2] > 0)

    def test_worths_below_zero(self):
        table = Table(["a", "b"], {("a", ""): ("below", -3), ("b", "a"): ("upto", -10 ** 12)})
        self.check(table)
        self.assertLess(point(table)["b"][0], 0)

    def test_great_numbers(self):
        number = 999999999999
        self.check(Table(["a"], {("a", ""): ("upto", number), ("", "a"): ("upto", -number)}))
        self.check(Table(["a"], {("a", ""): ("upto", number), ("", "a"): ("below", -number)}))
        self.check(Table(["a"], {("a", ""): ("below", number + 1), ("", "a"): ("below", -number)}))

    def test_five_names_all_round(self):
        names = ["a", "b", "c", "d", "e"]
        spots = [""] + names
        for last, is_there in ((("upto", 5), True), (("below", 5), False), (("upto", 4), False)):
            bounds = {(one, other): ("upto", -1) for one, other in zip(spots, spots[1:])}
            bounds["e", ""] = last
            table = Table(names, bounds)
            self.check(table)
            self.assertEqual(ring(table), None if is_there else ("", "a", "b", "c", "d", "e"))

    def test_the_ring_does_not_begin_with_the_begin(self):
        bounds = {("c", "b"): ("upto", 2), ("b", "a"): ("upto", 2), ("a", "c"): ("below", -4)}
        self.assertEqual(ring(Table(["a", "b", "c"], bounds)), ("a", "c", "b"))
        self.assertEqual(ring(Table(["c", "b", "a"], bounds)), ("c", "b", "a"))

    def test_many_tables(self):
        rolls = random.Random(9)
        ringed = 0
        for round_ in range(400):
            names = ["a", "b", "c", "d"][:round_ % 4 + 1]
            table = random_table(rolls, names, -3, 3, rolls.choice([0.3, 0.5, 0.8]))
            self.check(table)
            self.assertEqual(ring(table) is not None, is_barred(table))
            rings = barring_rings(table)
            if rings:
                ringed += 1
                self.assertIn(ring(table), rings)
                self.assertEqual(len(ring(table)), len(rings[0]))
            self.assertEqual(ring(table), ring(Table(tuple(names), table.bounds())))
            self.assertEqual(point(table), point(Table(tuple(names), table.bounds())))
        self.assertGreater(ringed, 100)

    def test_many_great_tables(self):
        rolls = random.Random(10)
        names = ["a", "b", "c", "d", "e", "f", "g", "h", "i", "j", "k", "l", "now"]
        for _ in range(60):
            self.check(random_table(rolls, names, -2, 9, rolls.choice([0.1, 0.3])))


class IsRingTest(unittest.TestCase):
    def test_all_ways_of_many_tables(self):
        rolls = random.Random(11)
        for _ in range(60):
            table = random_table(rolls, ["a", "b", "c"], -3, 2, 0.7)
            rings = barring_rings(table)
            for size in range(0, 5):
                for way in permutations(["", "a", "b", "c"], size):
                    self.assertIs(is_ring(table, way), way in rings)

    def test_what_is_no_ring(self):
        table = Table(["a", "b"], {("", "a"): ("upto", -1), ("a", ""): ("upto", 0), ("a", "b"): ("upto", -1),
                                   ("b", "a"): ("upto", -1)})
        self.assertIs(is_ring(table, ["", "a"]), True)
        self.assertIs(is_ring(table, ("a", "b")), True)
        wrong = [("a", ""), ("b", "a"), ("", "a", "b"), ("", "a", "", "a"), ("a", "b", "a", "b"), ("a", "a"), ("a",), (),
                 ("", "c"), ("", None), ("", ["a"]), ("", "a", 3), "ab", {"a": 1, "b": 2}, ("", "b"), (0, 1)]
        for thing in wrong + strange_objects():
            if thing != ("a", "b"):
                self.assertIs(is_ring(table, thing), False)

    def test_a_sum_that_zero_keeps(self):
        table = Table(["a"], {("a", ""): ("upto", 3), ("", "a"): ("upto", -3)})
        self.assertIs(is_ring(table, ("", "a")), False)
        self.assertIs(is_ring(Table(["a"], {("a", ""): ("upto", 3)}), ("", "a")), False)
        self.assertIs(is_ring(Table(["a"], {("a", ""): ("below", 3), ("", "a"): ("upto", -3)}), ("", "a")), True)


if __name__ == "__main__":
    unittest.main()
