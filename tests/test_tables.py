"""[3], [5], [7]: tables of differences."""

import unittest

from rowsintime.errors import BadBound, BadNames, NoName, SameName
from rowsintime.kinds import is_fraction, is_integer, is_name
from rowsintime.rows import Rows
from rowsintime.tables import Table
from tests.helper import error_of, strange_objects

BOUNDS = {("b", ""): ("below", 4), ("a", "b"): ["upto", -1], ("", "a"): ("upto", 0), ("b", "a"): None}


class KindsTest(unittest.TestCase):
    def test_integers(self):
        for thing in (0, -1, 10 ** 12):
            self.assertIs(is_integer(thing), True)
        for thing in (True, False, None, "1", [1], (1, 1)):
            self.assertIs(is_integer(thing), False)

    def test_names(self):
        for thing in ("a", "z", "abcdefgh", "zzzzzzzz"):
            self.assertIs(is_name(thing), True)
        for thing in ("", "abcdefghi", "A", "a1", "a b", "\xe4", "\xdf", "a\n", 1, None, ["a"], True):
            self.assertIs(is_name(thing), False)

    def test_fractions(self):
        for thing in ((0, 1), [2, 4], (-3, 2), (10 ** 12, 10 ** 12)):
            self.assertIs(is_fraction(thing), True)
        for thing in ((1, 0), (1, -1), (True, 1), (1, True), 1, (1,), (1, 1, 1), "11", None, ("1", 1), {}):
            self.assertIs(is_fraction(thing), False)


class TableTest(unittest.TestCase):
    def test_names_and_length(self):
        table = Table(("b", "a", "abcdefgh"), {})
        self.assertEqual(table.names(), ["b", "a", "abcdefgh"])
        self.assertEqual(len(table), 3)
        self.assertEqual(Table([], {}).names(), [])
        self.assertEqual(len(Table([], {})), 0)

    def test_bound_is_told_as_it_was_told(self):
        table = Table(["a", "b"], BOUNDS)
        self.assertEqual(table.bound("a", "b"), ("upto", -1))
        self.assertIsInstance(table.bound("a", "b"), tuple)
        self.assertEqual(table.bound("b", ""), ("below", 4))
        self.assertEqual(table.bound("", "a"), ("upto", 0))
        self.assertIsNone(table.bound("b", "a"))
        self.assertIsNone(table.bound("a", ""))
        self.assertEqual(table.bound(other="b", one="a"), ("upto", -1))

    def test_bounds_are_not_tightened(self):
        table = Table(["a"], {("a", ""): ("upto", 3), ("", "a"): ("below", -5)})
        self.assertEqual(table.bounds(), {("", "a"): ("below", -5), ("a", ""): ("upto", 3)})

    def test_bounds_stand_in_the_order_of_the_names(self):
        spots = ["", "c", "a", "b"]
        pairs = [(one, other) for one in spots for other in spots if one != other]
        backwards = {pair: ("upto", at) for at, pair in reversed(list(enumerate(pairs)))}
        table = Table(["c", "a", "b"], backwards)
        self.assertEqual(list(table.bounds().items()), [(pair, ("upto", at)) for at, pair in enumerate(pairs)])
        self.assertEqual(list(Table(["a", "b"], BOUNDS).bounds()), [("", "a"), ("a", "b"), ("b", "")])

    def test_great_numbers(self):
        number = 999999999999
        table = Table(["a"], {("a", ""): ("upto", number), ("", "a"): ("below", -number)})
        self.assertEqual(table.bound("a", ""), ("upto", number))
        self.assertEqual(table.bound("", "a"), ("below", -number))

    def test_many_names(self):
        names = ["a", "b", "c", "d", "e", "f", "g", "h", "i", "j", "k", "l", "now"]
        self.assertEqual(Table(names, {}).names(), names)

    def test_what_is_passed_is_copied(self):
        names = ["a", "b"]
        bound = ["upto", 2]
        bounds = {("a", "b"): bound}
        table = Table(names, bounds)
        names.append("c")
        bound[1] = 7
        bounds["b", "a"] = ("upto", 1)
        self.assertEqual(table.names(), ["a", "b"])
        self.assertEqual(table.bounds(), {("a", "b"): ("upto", 2)})

    def test_what_is_passed_is_not_changed(self):
        names = ["b", "a"]
        bounds = {("b", "a"): None, ("a", ""): ["upto", 1]}
        Table(names, bounds)
        self.assertEqual(names, ["b", "a"])
        self.assertEqual(list(bounds.items()), [(("b", "a"), None), (("a", ""), ["upto", 1])])

    def test_what_is_told_is_the_callers_own(self):
        table = Table(["a", "b"], BOUNDS)
        table.names().append("c")
        table.bounds().clear()
        self.assertEqual(table.names(), ["a", "b"])
        self.assertEqual(len(table.bounds()), 3)

    def test_equal(self):
        table = Table(["a", "b"], BOUNDS)
        turned = {pair: BOUNDS[pair] for pair in reversed(list(BOUNDS))}
        self.assertTrue(table == Table(("a", "b"), turned))
        self.assertFalse(table != Table(("a", "b"), turned))
        self.assertIs(table == Table(["b", "a"], BOUNDS), False)
        self.assertIs(table == Table(["a", "b"], dict(BOUNDS, **{})), True)
        self.assertFalse(table == Table(["a", "b"], {**BOUNDS, ("b", ""): ("upto", 4)}))
        self.assertFalse(table == Table(["a", "b"], {**BOUNDS, ("b", "a"): ("upto", 4)}))
        self.assertFalse(Table(["a"], {}) == Table(["b"], {}))
        # The same points are not the same bounds.
        self.assertFalse(Table(["a"], {("a", ""): ("upto", -1), ("", "a"): ("upto", 0)})
                         == Table(["a"], {("a", ""): ("upto", -2), ("", "a"): ("upto", 0)}))

    def test_a_table_equals_nothing_else(self):
        table = Table(["c"], {})
        for thing in strange_objects() + [["c"], table.bounds(), Rows(["c"], [], [], [])]:
            self.assertIs(table == thing, False)
            self.assertIs(thing == table, False)
            self.assertIs(table != thing, True)


class TableErrorsTest(unittest.TestCase):
    def check_names(self, names, index, bounds=None):
        error = error_of(lambda: Table(names, {} if bounds is None else bounds))
        self.assertIs(type(error), BadNames)
        self.assertEqual(error.index, index)
        self.assertIs(type(error.index), int)

    def test_bad_names(self):
        self.check_names(["a", "b", "a"], 2)
        self.check_names(("a", "", "a"), 1)
        self.check_names(["abcdefghi"], 0)
        self.check_names(["a", "B", 3], 1)
        for thing in strange_objects():
            if isinstance(thing, (list, tuple)):
                continue
            self.check_names(thing, 0)
        for thing in strange_objects():
            if not is_name(thing):
                self.check_names(["z", thing, "z"], 1)

    def test_names_come_ahead_of_bounds(self):
        self.check_names(["a", "a"], 1, 5)
        self.check_names(None, 0, {1: 2})

    def check_bounds(self, bounds, thing, names=("a", "b")):
        error = error_of(lambda: Table(names, bounds))
        self.assertIs(type(error), BadBound)
        self.assertIs(error.thing, thing)

    def test_bounds_are_a_dict(self):
        for thing in strange_objects():
            if not isinstance(thing, dict):
                self.check_bounds(thing, None)

    def test_bad_keys(self):
        keys = [None, 1, True, "a", "ab", "", (), ("a",), ("a", "a"), ("", ""), ("a", "c"), ("c", "a"), ("a", "b", ""),
                ("a", None), (("a",), "b"), (1, "a"), ("A", "b"), (("a", "b"), ("b", "a"))]
        for key in keys:
            self.check_bounds({key: ("upto", 1)}, key)
            self.check_bounds({key: None}, key)
            self.check_bounds({("a", "b"): None, key: None, ("b", "b"): None}, key)

    def test_bad_worths(self):
        for worth in strange_objects() + [("upto",), ("upto", None), ("upto", (1, 1)), ("above", 1), "upto", ("Upto", 1)]:
            if worth is None or worth in (("upto", 1), ["below", 2]):
                continue
            key = ("a", "")
            self.check_bounds({("b", ""): ("upto", 1), key: worth, ("b", "b"): 3}, key)

    def test_the_first_key_of_the_dict_is_told(self):
        first, second = ("b", "a"), ("a", "b")
        self.check_bounds({first: 1, second: 1}, first)
        self.check_bounds({second: 1, first: 1}, second)

    def test_bounds_of_no_names(self):
        self.check_bounds({("", ""): None}, ("", ""), names=[])
        self.check_bounds({("a", ""): None}, ("a", ""), names=())

    def test_no_name(self):
        table = Table(["a", "b"], BOUNDS)
        for thing in strange_objects():
            if thing in ("", "a", "b"):
                continue
            for work in (lambda: table.bound(thing, "a"), lambda: table.bound("a", thing),
                         lambda: table.bound(thing, thing), lambda: table.bound(thing, 5)):
                error = error_of(work)
                self.assertIs(type(error), NoName)
                self.assertIs(error.name, thing)

    def test_the_one_comes_ahead_of_the_other(self):
        one, other = ["x"], ["x"]
        self.assertIs(error_of(lambda: Table(["a"], {}).bound(one, other)).name, one)

    def test_same_name(self):
        table = Table(["a", "b"], BOUNDS)
        for name in ("", "a", "b"):
            error = error_of(lambda: table.bound(name, name))
            self.assertIs(type(error), SameName)
            self.assertEqual(error.name, name)


if __name__ == "__main__":
    unittest.main()
