"""[21], and [3], [4] and [5] as far as watchers keep them."""

import re
import unittest

from rowsintime.errors import BadArrow, BadClocks, BadEnd, BadPlace, NoPlace
from rowsintime.watchers import Watcher
from tests.helper import error_of, fault, strange_objects

CLOCKS = ["x", "y"]
LIMITS = {"shut": {}, "open": {"y": ("below", 7), "x": ("upto", 3)}, "gone": {"y": ("upto", 0)}}
ARROWS = [("shut", "door", [], ["x"], "open"),
          ("open", "bell", [("x", "above", 1), ("y", "from", 0), ("x", "below", 9), ("y", "upto", 2)], [], "shut"),
          ("open", None, [], ["y", "x"], "gone"),
          ("gone", "bell", [("x", "upto", 4)], [], "gone")]
ENDS = ["open", "shut"]


def example():
    return Watcher(CLOCKS, LIMITS, ARROWS, ENDS)


def listed(thing):
    """The same with lists in the place of tuples."""
    return [listed(one) for one in thing] if isinstance(thing, (list, tuple)) else thing


def is_plain_name(thing):
    return isinstance(thing, str) and re.fullmatch("[a-z]{1,8}", thing) is not None


class MadeTest(unittest.TestCase):
    def test_what_was_passed_is_told(self):
        watcher = example()
        self.assertEqual(watcher.clocks(), ["x", "y"])
        self.assertEqual(watcher.places(), ["shut", "open", "gone"])
        self.assertEqual(watcher.arrows(), [
            ("shut", "door", (), ("x",), "open"),
            ("open", "bell", (("x", "above", 1), ("y", "from", 0), ("x", "below", 9), ("y", "upto", 2)), (), "shut"),
            ("open", None, (), ("y", "x"), "gone"),
            ("gone", "bell", (("x", "upto", 4),), (), "gone")])
        self.assertEqual(watcher.ends(), ["open", "shut"])
        self.assertEqual(watcher.signals(), ["bell", "door"])

    def test_limits_in_the_order_of_the_clocks(self):
        watcher = example()
        self.assertEqual(list(watcher.limit("open").items()), [("x", ("upto", 3)), ("y", ("below", 7))])
        self.assertEqual(watcher.limit("shut"), {})
        self.assertEqual(watcher.limit("gone"), {"y": ("upto", 0)})

    def test_without_clocks_arrows_and_ends(self):
        watcher = Watcher([], {"p": {}}, [], [])
        self.assertEqual((watcher.clocks(), watcher.places(), watcher.arrows(), watcher.ends()), ([], ["p"], [], []))
        self.assertEqual((watcher.signals(), watcher.limit("p")), ([], {}))

    def test_unseen_arrows_have_no_signal(self):
        self.assertEqual(Watcher([], {"p": {}}, [("p", None, [], [], "p")], []).signals(), [])

    def test_lists_and_tuples_alike(self):
        limits = {"shut": {}, "open": {"y": ["below", 7], "x": ["upto", 3]}, "gone": {"y": ["upto", 0]}}
        watcher = Watcher(tuple(CLOCKS), limits, tuple(listed(ARROWS)), tuple(ENDS))
        self.assertEqual(watcher, example())
        self.assertEqual(repr(watcher.arrows()), repr(example().arrows()))
        self.assertEqual(repr(watcher.limit("open")), repr(example().limit("open")))
        self.assertIsInstance(watcher.clocks(), list)
        self.assertIsInstance(watcher.ends(), list)

    def test_by_name(self):
        self.assertEqual(Watcher(ends=ENDS, arrows=ARROWS, limits=LIMITS, clocks=CLOCKS), example())
        self.assertEqual(example().limit(place="gone"), {"y": ("upto", 0)})

    def test_what_is_passed_is_copied_and_not_changed(self):
        clocks, arrows, ends = list(CLOCKS), listed(ARROWS), list(ENDS)
        limits = {place: {clock: list(bound) for clock, bound in LIMITS[place].items()} for place in LIMITS}
        watcher = Watcher(clocks, limits, arrows, ends)
        self.assertEqual((clocks, arrows, ends), (CLOCKS, listed(ARROWS), ENDS))
        self.assertEqual(list(limits["open"].items()), [("y", ["below", 7]), ("x", ["upto", 3])])
        clocks.append("z")
        limits["shut"]["x"] = ("upto", 0)
        limits["open"]["x"][1] = 4
        limits["late"] = {}
        arrows[0][0] = "open"
        arrows[1][2][0][2] = 5
        arrows[2][3].clear()
        arrows.pop()
        ends.clear()
        self.assertEqual(watcher, example())

    def test_what_is_told_is_the_callers_own(self):
        watcher = example()
        watcher.clocks().clear()
        watcher.places().append("late")
        watcher.arrows().pop()
        watcher.ends().clear()
        watcher.signals().clear()
        watcher.limit("open").clear()
        self.assertEqual(watcher, example())
        self.assertEqual(watcher.signals(), ["bell", "door"])

    def test_no_place(self):
        watcher = example()
        for thing in strange_objects() + ["x", "door", "late", ["shut"]]:
            error = error_of(lambda: watcher.limit(thing))
            self.assertIsInstance(error, NoPlace)
            self.assertIs(error.name, thing)

    def test_clocks_places_and_signals_can_have_one_name(self):
        watcher = Watcher(["a"], {"a": {"a": ("upto", 1)}}, [("a", "a", [("a", "from", 0)], ["a"], "a")], ["a"])
        self.assertEqual((watcher.clocks(), watcher.places(), watcher.signals()), (["a"], ["a"], ["a"]))


class EqualTest(unittest.TestCase):
    def test_equal_in_order(self):
        self.assertTrue(example() == example())
        self.assertFalse(example() != example())
        shuffled = {"shut": {}, "open": {"x": ("upto", 3), "y": ("below", 7)}, "gone": {"y": ("upto", 0)}}
        self.assertTrue(Watcher(CLOCKS, shuffled, ARROWS, ENDS) == example())

    def test_unequal(self):
        moved = {place: LIMITS[place] for place in ["open", "shut", "gone"]}
        tighter = dict(LIMITS, open={"x": ("upto", 3), "y": ("below", 6)})
        other_word = dict(LIMITS, open={"x": ("below", 3), "y": ("below", 7)})
        fewer = dict(LIMITS, gone={})
        for other in (Watcher(["y", "x"], LIMITS, ARROWS, ENDS), Watcher(["x", "y", "z"], LIMITS, ARROWS, ENDS),
                      Watcher(CLOCKS, moved, ARROWS, ENDS), Watcher(CLOCKS, tighter, ARROWS, ENDS),
                      Watcher(CLOCKS, other_word, ARROWS, ENDS), Watcher(CLOCKS, fewer, ARROWS, ENDS),
                      Watcher(CLOCKS, dict(LIMITS, late={}), ARROWS, ENDS),
                      Watcher(CLOCKS, LIMITS, ARROWS[::-1], ENDS), Watcher(CLOCKS, LIMITS, ARROWS[:3], ENDS),
                      Watcher(CLOCKS, LIMITS, ARROWS[:2] + [("open", None, [], ["x", "y"], "gone")] + ARROWS[3:], ENDS),
                      Watcher(CLOCKS, LIMITS, ARROWS, ENDS[::-1]), Watcher(CLOCKS, LIMITS, ARROWS, [])):
            self.assertFalse(example() == other)
            self.assertTrue(example() != other)

    def test_nothing_else_is_equal(self):
        for thing in strange_objects():
            self.assertFalse(example() == thing)
            self.assertFalse(thing == example())


class ErrorTest(unittest.TestCase):
    def test_bad_clocks(self):
        for thing in strange_objects():
            expected = None
            if not isinstance(thing, (list, tuple)):
                expected = ("BadClocks", 0)
            else:
                bad = [at for at, name in enumerate(thing) if not is_plain_name(name) or name in thing[:at]]
                expected = ("BadClocks", bad[0]) if bad else None
            self.assertEqual(fault(lambda: Watcher(thing, {"p": {}}, [], [])), expected)
        self.assertEqual(fault(lambda: Watcher(["a", "b", "a", 3], {"p": {}}, [], [])), ("BadClocks", 2))
        self.assertEqual(fault(lambda: Watcher(["a", "b", "", "a"], {"p": {}}, [], [])), ("BadClocks", 2))
        self.assertEqual(fault(lambda: Watcher("ab", {"p": {}}, [], [])), ("BadClocks", 0))

    def test_bad_places(self):
        for thing in strange_objects():
            if not isinstance(thing, dict) or not thing:
                error = error_of(lambda: Watcher(["a"], thing, [], []))
                self.assertIsInstance(error, BadPlace)
                self.assertIsNone(error.name)

    def test_bad_keys_of_limits(self):
        for key in (None, 0, True, 1, "", "A", "abcdefghi", ("p",), (), ("a", ""), "p q"):
            error = error_of(lambda: Watcher(["a"], {"p": {}, key: {}, 5: {}}, [], []))
            self.assertIsInstance(error, BadPlace)
            self.assertIs(error.name, key)

    def test_bad_limits(self):
        for thing in strange_objects():
            if thing == {}:
                continue
            error = error_of(lambda: Watcher(["a"], {"p": {}, "q": thing, "": {}}, [], []))
            self.assertEqual((error.__class__, error.name), (BadPlace, "q"))
        for limit in ({"b": ("upto", 1)}, {"a": None}, {"a": ("upto", -1)}, {"a": ("from", 1)}, {"a": ("above", 0)},
                      {"a": ("upto", True)}, {"a": ("upto", 1, 2)}, {"a": "upto"}, {"a": ("upto", (1, 1))}, {"": ("upto", 1)},
                      {"a": ("upto", 1), None: ("upto", 1)}, {"a": ("upto", 1), ("a",): ("upto", 1)}, {0: ("upto", 1)}):
            self.assertEqual(fault(lambda: Watcher(["a"], {"p": limit}, [], [])), ("BadPlace", "p"))
        for bound in strange_objects():
            expected = None if repr(bound) in ("('upto', 1)", "['below', 2]") else ("BadPlace", "p")
            self.assertEqual(fault(lambda: Watcher(["a"], {"p": {"a": bound}}, [], [])), expected)

    def test_great_numbers_and_zero_are_well(self):
        watcher = Watcher(["a"], {"p": {"a": ("below", 0)}}, [("p", "s", [("a", "from", 10 ** 12)], [], "p")], [])
        self.assertEqual(watcher.limit("p"), {"a": ("below", 0)})

    def test_bad_arrows(self):
        for thing in strange_objects():
            expected = None if thing in ([], ()) else ("BadArrow", 0)
            self.assertEqual(fault(lambda: Watcher(["a"], {"p": {}}, thing, [])), expected)
            if thing not in ([], ()):
                arrows = [("p", "s", [], [], "p"), thing, ("p",)]
                self.assertEqual(fault(lambda: Watcher(["a"], {"p": {}}, arrows, [])), ("BadArrow", 1))

    def test_bad_parts_of_arrows(self):
        well = ("p", "s", [("x", "from", 1)], ["x"], "q")
        limits = {"p": {}, "q": {}}
        self.assertIsNone(fault(lambda: Watcher(["x"], limits, [well], [])))
        bent = [well[:4], well + ("q",), ("late",) + well[1:], well[:4] + ("late",), (None,) + well[1:],
                well[:1] + ("",) + well[2:], well[:1] + (3,) + well[2:], well[:1] + (["s"],) + well[2:],
                well[:1] + (True,) + well[2:], well[:1] + ("Bell",) + well[2:], (("p",),) + well[1:],
                well[:2] + (None,) + well[3:], well[:2] + ("x",) + well[3:], well[:2] + ({},) + well[3:],
                well[:3] + (["x", "x"],) + well[4:], well[:3] + (["y"],) + well[4:], well[:3] + ("x",) + well[4:],
                well[:3] + (None,) + well[4:], well[:3] + ([["x"]],) + well[4:], well[:3] + ([None],) + well[4:]]
        cuts = [("y", "from", 1), ("x", "at", 1), ("x", "from", -1), ("x", "from", True), ("x", "from", "1"), ("x", "from"),
                ("x", "from", 1, 1), "xfrom", None, 3, (["x"], "from", 1), ("x", ["from"], 1), ("x", "from", (1, 1)),
                ("x", None, 1), ("x", "upto", None), (None, "upto", 1), {}, ("", "from", 1)]
        bent += [well[:2] + ([("x", "upto", 1), cut],) + well[3:] for cut in cuts]
        for arrow in bent:
            self.assertEqual(fault(lambda: Watcher(["x"], limits, [well, arrow, 3], [])), ("BadArrow", 1))
        for thing in strange_objects():
            for at in (0, 2, 3, 4):
                if thing in ([], ()) and at in (2, 3):
                    continue
                arrow = well[:at] + (thing,) + well[at + 1:]
                self.assertEqual(fault(lambda: Watcher(["x"], limits, [arrow], [])), ("BadArrow", 0))

    def test_signals_are_names_or_none(self):
        for thing in strange_objects():
            expected = None if thing is None or thing in ("a", "b", "upto") else ("BadArrow", 0)
            self.assertEqual(fault(lambda: Watcher([], {"p": {}}, [("p", thing, [], [], "p")], [])), expected)

    def test_bad_ends(self):
        for thing in strange_objects():
            expected = None if thing in ([], (), ["a"], ("a",)) else ("BadEnd", 1 if thing == ("a", "b") else 0)
            self.assertEqual(fault(lambda: Watcher([], {"a": {}}, [], thing)), expected)
        self.assertEqual(fault(lambda: Watcher([], {"a": {}, "b": {}}, [], ["b", "a", "b", 7])), ("BadEnd", 2))
        self.assertEqual(fault(lambda: Watcher([], {"a": {}, "b": {}}, [], ["b", ["a"]])), ("BadEnd", 1))

    def test_the_order_of_errors(self):
        bad = {"clocks": ["x", "x"], "limits": {"p": None}, "arrows": [3], "ends": ["late"]}
        well = {"clocks": ["x"], "limits": {"p": {}}, "arrows": [], "ends": []}
        names = ["clocks", "limits", "arrows", "ends"]
        errors = [BadClocks, BadPlace, BadArrow, BadEnd]
        for at in range(4):
            told = {name: (well if k < at else bad)[name] for k, name in enumerate(names)}
            self.assertIsInstance(error_of(lambda: Watcher(**told)), errors[at])
        self.assertEqual(fault(lambda: Watcher(["x"], {"p": {}, "": {}, "q": 3}, [], [])), ("BadPlace", ""))


if __name__ == "__main__":
    unittest.main()
