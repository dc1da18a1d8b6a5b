"""[92] to [97], and the errors, the limits and the example of [98]."""

import random
import time
import unittest
from collections import Counter

from rowsintime.errors import BadText, ClockError
from rowsintime.houses import House, read_house, write_house
from rowsintime.judging import judged
from rowsintime.logs import Log
from rowsintime.making import both_tell, either_tell, less_tell, not_told
from rowsintime.rounds import fastest
from rowsintime.rules import watcher_of
from rowsintime.tables import Table
from rowsintime.telling import parting_row, tells
from rowsintime.watchers import Watcher
from tests.helper import (
    as_lists, error_of, fault, random_row, random_rule, random_sure, random_table, random_watcher, strange_objects)
from tests.test_going import doors
from tests.test_logs import lamps
from tests.test_texts import DOORS, bent

RULE = ("since", "bell", "door", "upto", 3)
UNSURE = Watcher([], {"p": {}}, [("p", "a", [], [], "p"), ("p", "a", [], [], "p")], ["p"])
UNSEEN = Watcher([], {"p": {}}, [("p", None, [], [], "p")], ["p"])


def example():
    """The house of the example of [98]."""
    house = House()
    house.put("w", "watcher", doors())
    house.put("r", "rule", RULE)
    house.put("b", "made", ("by", "r", "w"))
    house.put("m", "made", ("both", "w", "b"))
    return house


def full():
    """A house with things of all kinds."""
    house = example()
    house.put("t", "table", Table(["a"], {("a", ""): ("upto", 3)}))
    house.put("row", "row", [["door", [2, 4]], ("bell", (9, 3))])
    house.put("v", "watcher", lamps())
    house.put("log", "log", ["v", [["lamp", 4]]])
    return house


def state(house):
    """All that a house keeps, and all that can be taken back and done again, told of a copy of it."""
    other = house.copy()
    told = [write_house(other), list(other.kinds().items()), other.count(), other.made()]
    while other.undo() is not None:
        told.append(write_house(other))
    words = [other.again()]
    while words[-1] is not None:
        words.append(other.again())
    return told + [words, write_house(other)]


class ExampleTest(unittest.TestCase):
    def test_the_example(self):
        house = example()
        house.watcher("m")
        self.assertEqual(house.made(), ["b", "m"])
        self.assertEqual(house.made(), [])
        house.put("r", "rule", RULE[:4] + (4,))
        house.watcher("m")
        self.assertEqual(house.made(), ["b", "m"])
        self.assertEqual(house.undo(), "put")
        house.watcher("m")
        self.assertEqual(house.made(), ["b", "m"])
        house.put("r", "rule", list(RULE))
        house.watcher("m")
        self.assertEqual(house.made(), [])
        self.assertEqual(fault(lambda: house.drop("r")), ("Needed", "r", "b"))

    def test_by_name(self):
        house = House()
        self.assertIsNone(house.put(name="w", kind="watcher", thing=doors()))
        house.put(name="v", kind="watcher", thing=lamps())
        house.put(name="r", kind="rule", thing=RULE)
        house.put(name="row", kind="row", thing=[])
        house.put(name="log", kind="log", thing=("v", []))
        self.assertEqual((house.thing(name="w"), house.watcher(name="w")), (doors(), doors()))
        self.assertIs(house.tells(w="w", row="row"), True)
        self.assertEqual((house.judged(w="w", rule="r"), house.parting(w="w", other="w")), ("sure", None))
        self.assertEqual(house.fastest(w="w"), fastest(doors()))
        self.assertIsNone(house.saw(name="log", signal="lamp", time=4))
        self.assertIsNone(house.saw("log", "lamp"))
        self.assertIsNone(house.stood(name="log", time=5))
        self.assertEqual(house.log(name="log"), Log(lamps(), [("lamp", 4), ("lamp", None), (None, 5)]))
        self.assertEqual(house.trial(work=lambda other: other is house), True)
        self.assertIsNone(house.drop(name="row"))
        self.assertEqual(write_house(house=read_house(text=write_house(house))), write_house(house))


class PutTest(unittest.TestCase):
    def test_things_are_told_anew(self):
        house = full()
        self.assertEqual(house.thing("w"), doors())
        self.assertEqual(house.thing("t"), Table(["a"], {("a", ""): ("upto", 3)}))
        self.assertEqual(repr(house.thing("r")), repr(RULE))
        self.assertEqual(repr(house.thing("row")), repr([("door", (1, 2)), ("bell", (3, 1))]))
        self.assertEqual(repr(house.thing("m")), repr(("both", "w", "b")))
        self.assertEqual(repr(house.thing("log")), repr(("v", [("lamp", 4)])))
        house.put("n", "made", ["not", "w"])
        house.put("q", "rule", as_lists(("not", RULE)))
        self.assertEqual(repr((house.thing("n"), house.thing("q"))), repr((("not", "w"), ("not", RULE))))
        house.thing("row").clear()
        house.thing("log")[1].clear()
        house.kinds().clear()
        self.assertEqual((len(house.thing("row")), len(house.thing("log")[1]), len(house.kinds())), (2, 1, 10))

    def test_what_callers_change_changes_nothing(self):
        house, row, rule, log = House(), [["a", [1, 2]]], as_lists(RULE), ["w", [["lamp", 4]]]
        made = ["not", "w"]
        house.put("w", "watcher", lamps())
        for name, kind, thing in (("row", "row", row), ("r", "rule", rule), ("l", "log", log), ("m", "made", made)):
            house.put(name, kind, thing)
        ahead = write_house(house)
        row[0][1][0] = 7
        rule[4] = 9
        log[1].append(["lamp", 9])
        log[0] = "r"
        made[1] = "m"
        self.assertEqual(write_house(house), ahead)

    def test_kinds_stand_in_the_order_in_which_names_came(self):
        house = full()
        order = ["w", "r", "b", "m", "t", "row", "v", "log"]
        self.assertEqual(list(house.kinds()), order)
        self.assertEqual(house.kinds()["b"], "made")
        house.put("r", "rule", RULE)
        self.assertEqual(list(house.kinds()), order)
        house.drop("t")
        self.assertEqual(list(house.kinds()), [name for name in order if name != "t"])
        house.put("t", "row", [])
        self.assertEqual(list(house.kinds()), [name for name in order if name != "t"] + ["t"])
        house.undo()
        house.undo()
        self.assertEqual(list(house.kinds()), order)

    def test_errors_in_their_order(self):
        house = full()
        ahead = state(house)
        for name in strange_objects() + ["abcdefghi", "a b", "é"]:
            if name not in ("a", "b", "upto"):
                error = error_of(lambda: house.put(name, None, None))
                self.assertEqual((error.__class__.__name__, error.name is name), ("BadName", True))
        for kind in strange_objects() + ["Table", "tables", ""]:
            error = error_of(lambda: house.put("w", kind, None))
            self.assertEqual((error.__class__.__name__, error.kind is kind), ("BadKind", True))
        for kind in ("table", "row", "rule", "made", "log"):
            self.assertEqual(fault(lambda: house.put("w", kind, None)), ("TakenKind", "w"))
        self.assertEqual(state(house), ahead)

    def test_bad_things(self):
        house = full()
        ahead = state(house)
        forms = {"table": lambda thing: isinstance(thing, Table), "watcher": lambda thing: isinstance(thing, Watcher),
                 "row": lambda thing: thing in ([], ()), "rule": lambda thing: False, "made": lambda thing: False,
                 "log": lambda thing: False}
        for kind, is_well in forms.items():
            for thing in [thing for thing in strange_objects() if not is_well(thing)]:
                error = error_of(lambda: house.put("new", kind, thing))
                self.assertEqual((error.__class__.__name__, error.thing is thing), ("BadThing", True), (kind, thing))
        wrong = {"row": [[("a", (2, 1)), ("a", (1, 1))], [("A", (1, 1))], [("a", 1)], [None], {"a": (1, 1)}],
                 "rule": [("not", None), RULE[:4], ("since", "a", "b", "upto", -1)],
                 "made": [("not",), ("not", "w", "w"), ("both", "w"), ("by", "r"), ("not", 1), ("not", ""), ("not", "W"),
                          ("nor", "w", "w"), (None, "w"), (["not"], "w"), ("not", ["w"]), "not", ("not", "abcdefghi")],
                 "log": [("w",), ("w", [], []), (1, []), ("W", []), ("w", None), ("w", [None]), ("w", [("a", -1)]),
                         ("w", [("a", 2), (None, 1)]), ("w", [(None, None)]), (["w"], []), "wl"]}
        for kind, things in wrong.items():
            for thing in things:
                error = error_of(lambda: house.put("new", kind, thing))
                self.assertEqual((error.__class__.__name__, error.thing is thing), ("BadThing", True), (kind, thing))
        self.assertEqual(state(house), ahead)

    def test_names_in_things(self):
        house = full()
        ahead = state(house)
        cases = [
            ("new", "made", ("not", "new"), ("NoName", "new")), ("new", "made", ("both", "r", "none"), ("NoName", "none")),
            ("new", "made", ("both", "none", "other"), ("NoName", "none")), ("new", "made", ("not", "r"), ("NotOf", "r")),
            ("new", "made", ("both", "t", "row"), ("NotOf", "t")), ("new", "made", ("either", "w", "log"), ("NotOf", "log")),
            ("new", "made", ("by", "w", "r"), ("NotOf", "w")), ("new", "made", ("by", "r", "r"), ("NotOf", "r")),
            ("new", "made", ("less", "m", "r"), ("NotOf", "r")), ("m", "made", ("not", "m"), ("OnItself", "m")),
            ("b", "made", ("not", "m"), ("OnItself", "b")), ("b", "made", ("both", "m", "r"), ("NotOf", "r")),
            ("b", "made", ("both", "m", "none"), ("NoName", "none")), ("new", "log", ("none", []), ("NoName", "none")),
            ("new", "log", ("m", []), ("NotOf", "m")), ("log", "log", ("log", []), ("NotOf", "log")),
            ("new", "log", ("new", []), ("NoName", "new")), ("new", "log", ("r", []), ("NotOf", "r"))]
        for name, kind, thing, wanted in cases:
            self.assertEqual(fault(lambda: house.put(name, kind, thing)), wanted, (name, thing))
        self.assertEqual(state(house), ahead)
        house.put("m", "made", ("less", "b", "b"))
        house.put("b", "made", ("not", "w"))
        self.assertEqual(house.thing("b"), ("not", "w"))

    def test_nothing_is_kept_under_any_other_object(self):
        house = full()
        for thing in strange_objects() + ["none"]:
            if thing == "b":
                continue
            works = [house.thing, house.watcher, house.fastest, house.log, house.drop, lambda name: house.tells(name, None),
                     lambda name: house.tells("w", name), lambda name: house.judged(name, None), lambda name: house.judged("m", name),
                     lambda name: house.parting(name, None), lambda name: house.parting("w", name),
                     lambda name: house.saw(name, None), lambda name: house.stood(name, None)]
            for work in works:
                error = error_of(lambda: work(thing))
                self.assertEqual((error.__class__.__name__, error.name is thing), ("NoName", True))
        self.assertEqual(house.made(), [])


class MadeTest(unittest.TestCase):
    def test_made_watchers_are_made_as_told(self):
        rolls = random.Random(1)
        for _ in range(30):
            one, other = random_sure(rolls, clocks=1, places=2, most=2), random_sure(rolls, clocks=1, places=2, most=2)
            house = House()
            house.put("one", "watcher", one)
            house.put("other", "watcher", other)
            rule = ("since", one.signals()[0], one.signals()[0], "upto", 2) if one.signals() else None
            made = {"n": ("not", "one"), "b": ("both", "one", "other"), "e": ("either", "one", "other"), "l": ("less", "one", "other")}
            for name, thing in made.items():
                house.put(name, "made", thing)
            self.assertEqual(house.watcher("n"), not_told(one, one.signals()))
            self.assertEqual(house.watcher("b"), both_tell(one, other))
            self.assertEqual(house.watcher("e"), either_tell(one, other))
            self.assertEqual(house.watcher("l"), less_tell(one, other))
            self.assertEqual(house.made(), ["n", "b", "e", "l"])
            if rule is not None:
                house.put("r", "rule", rule)
                house.put("by", "made", ("by", "r", "b"))
                if error_of(lambda: house.watcher("by")) is None:
                    self.assertEqual(house.watcher("by"), watcher_of(rule, both_tell(one, other).signals()))

    def test_what_making_raises(self):
        house = House()
        for name, kind, thing in (
                ("sure", "watcher", doors()), ("unsure", "watcher", UNSURE), ("unseen", "watcher", UNSEEN),
                ("r", "rule", ("since", "bell", "lamp", "upto", 1)), ("a", "made", ("not", "unsure")), ("b", "made", ("not", "unseen")),
                ("c", "made", ("by", "r", "sure")), ("d", "made", ("not", "sure")), ("e", "made", ("both", "d", "a")),
                ("f", "made", ("both", "b", "a")), ("g", "made", ("less", "unsure", "b")), ("h", "made", ("either", "unsure", "unseen")),
                ("i", "made", ("both", "d", "c")), ("j", "made", ("by", "r", "unseen"))):
            house.put(name, kind, thing)
        wanted = {"a": ("Unsure", 0, 1), "b": ("Unseen", 0), "c": ("Lacks", "lamp"), "e": ("Unsure", 0, 1), "f": ("Unseen", 0),
                  "g": ("Unseen", 0), "h": ("Unsure", 0, 1), "i": ("Lacks", "lamp"), "j": ("Lacks", "bell")}
        for name, told in wanted.items():
            self.assertEqual(fault(lambda: house.watcher(name)), told, name)
            self.assertEqual(house.made(), [])
        house.watcher("d")
        self.assertEqual(house.made(), ["d"])
        self.assertEqual(fault(lambda: house.watcher("e")), ("Unsure", 0, 1))
        self.assertEqual(house.made(), [])
        self.assertEqual(house.watcher("unseen"), UNSEEN)
        self.assertEqual(fault(lambda: house.watcher("r")), ("NotOf", "r"))

    def test_what_raises_makes_nothing(self):
        house = example()
        house.put("never", "watcher", Watcher([], {"p": {}}, [("p", "bell", [], [], "p"), ("p", "door", [], [], "p")], []))
        house.put("n", "made", ("both", "never", "b"))
        house.put("u", "watcher", UNSURE)
        self.assertEqual(fault(lambda: house.judged("n", "r")), ("NoRow",))
        self.assertEqual(fault(lambda: house.parting("m", "u")), ("Unsure", 0, 1))
        self.assertEqual(fault(lambda: house.tells("u", "r")), ("NotOf", "r"))
        self.assertEqual(house.made(), [])
        house.watcher("m")
        self.assertEqual(house.made(), ["b", "m"])

    def test_made_anew_just_if_what_it_hangs_on_is_another_thing(self):
        house = example()
        house.watcher("b")
        house.watcher("m")
        self.assertEqual(house.made(), ["b", "m"])
        house.put("w", "watcher", Watcher(["x"], {"shut": {}, "open": {"x": ["upto", 3]}}, as_lists(doors().arrows()), ["shut"]))
        house.put("m", "made", ["both", "w", "b"])
        house.put("other", "watcher", lamps())
        house.watcher("m")
        self.assertEqual(house.made(), [])
        house.put("m", "made", ("both", "b", "w"))
        house.watcher("m")
        self.assertEqual(house.made(), ["m"])
        house.put("w", "watcher", Watcher(["x"], {"shut": {}, "open": {}}, doors().arrows(), ["shut"]))
        house.watcher("b")
        self.assertEqual(house.made(), ["b"])
        house.watcher("m")
        house.watcher("m")
        self.assertEqual(house.made(), ["m"])

    def test_inner_ones_are_not_asked_for_where_the_outer_one_stands(self):
        house = example()
        house.watcher("m")
        house.put("r", "rule", RULE[:4] + (4,))
        house.watcher("b")
        house.undo()
        house.watcher("m")
        self.assertEqual(house.made(), ["b", "m", "b"])
        house.watcher("b")
        self.assertEqual(house.made(), ["b"])

    def test_each_as_often_as_it_was_made(self):
        house = example()
        for n in (1, 2, 1):
            house.put("r", "rule", RULE[:4] + (n,))
            house.watcher("b")
        self.assertEqual(house.made(), ["b", "b", "b"])
        house.parting("b", "m")
        self.assertEqual(house.made(), ["m"])

    def test_what_was_made_is_kept_while_nothing_stands_under_it(self):
        house = example()
        house.watcher("m")
        house.made()
        house.drop("m")
        house.drop("b")
        house.put("b", "made", ("by", "r", "w"))
        house.put("m", "made", ("both", "w", "b"))
        house.watcher("m")
        self.assertEqual(house.made(), [])
        house.drop("m")
        house.put("m", "watcher", lamps())
        self.assertEqual(house.watcher("m"), lamps())
        house.drop("m")
        house.put("m", "made", ("both", "w", "b"))
        house.watcher("m")
        self.assertEqual(house.made(), [])

    def test_a_watcher_in_the_place_of_a_made_one(self):
        house = example()
        house.watcher("m")
        house.made()
        house.drop("m")
        house.drop("b")
        house.put("b", "watcher", doors())
        house.put("m", "made", ("both", "w", "b"))
        house.watcher("m")
        self.assertEqual(house.made(), ["m"])


class AskTest(unittest.TestCase):
    def test_asks_tell_what_the_functions_tell(self):
        rolls = random.Random(2)
        for _ in range(40):
            one = random_sure(rolls, clocks=1, places=2, most=2)
            other = random_watcher(rolls, clocks=1, places=2, most=2, unseen=0.1)
            rule, row = random_rule(rolls, "ab", plain=1), random_row(rolls, "ab", rolls.randint(0, 3))
            house = House()
            for name, kind, thing in (("one", "watcher", one), ("other", "watcher", other), ("r", "rule", rule), ("t", "row", row),
                                      ("n", "made", ("not", "one"))):
                house.put(name, kind, thing)
            count = house.count()
            watchers = {"one": one, "other": other, "n": not_told(one, one.signals())}
            for w, watcher in watchers.items():
                self.check(lambda: house.tells(w, "t"), lambda: tells(watcher, row))
                self.check(lambda: house.judged(w, "r"), lambda: judged(watcher, rule))
                for name, second in watchers.items():
                    self.check(lambda: house.parting(w, name), lambda: parting_row(watcher, second))
            self.check(lambda: house.fastest("other"), lambda: fastest(other))
            self.assertEqual(fault(lambda: house.fastest("n")), ("NotOf", "n"))
            self.assertEqual((house.count(), house.made()), (count, ["n"]))

    def check(self, work, function):
        self.assertEqual(fault(work), fault(function))
        if fault(work) is None:
            self.assertEqual(work(), function())

    def test_errors_name_by_name(self):
        house = full()
        cases = [(lambda: house.tells("none", "other"), ("NoName", "none")), (lambda: house.tells("r", "none"), ("NotOf", "r")),
                 (lambda: house.tells("w", "none"), ("NoName", "none")), (lambda: house.tells("w", "r"), ("NotOf", "r")),
                 (lambda: house.judged("row", "none"), ("NotOf", "row")), (lambda: house.judged("m", "row"), ("NotOf", "row")),
                 (lambda: house.parting("none", "r"), ("NoName", "none")), (lambda: house.parting("log", "none"), ("NotOf", "log")),
                 (lambda: house.parting("m", "t"), ("NotOf", "t")), (lambda: house.fastest("m"), ("NotOf", "m")),
                 (lambda: house.fastest("r"), ("NotOf", "r")), (lambda: house.watcher("t"), ("NotOf", "t")),
                 (lambda: house.log("v"), ("NotOf", "v")), (lambda: house.saw("w", None), ("NotOf", "w")),
                 (lambda: house.stood("none", None), ("NoName", "none"))]
        for work, wanted in cases:
            self.assertEqual(fault(work), wanted)
        self.assertEqual(house.made(), [])

    def test_asks_keep_what_they_make(self):
        for ask in (lambda house: house.tells("m", "row"), lambda house: house.judged("m", "r"),
                    lambda house: house.parting("w", "m"), lambda house: house.watcher("m")):
            house = full()
            ask(house)
            self.assertEqual(house.made(), ["b", "m"])
            ask(house)
            self.assertEqual((house.made(), house.count()), ([], 8))

    def test_w_is_made_ahead_of_other(self):
        house = example()
        house.put("n", "made", ("not", "w"))
        house.parting("n", "b")
        self.assertEqual(house.made(), ["n", "b"])


class LogTest(unittest.TestCase):
    def test_logs_grow(self):
        house = full()
        self.assertEqual(house.log("log"), Log(lamps(), [("lamp", 4)]))
        house.saw("log", "lamp", 6)
        house.saw("log", None, 7)
        house.saw("log", "lamp")
        house.stood("log", 9)
        entries = [("lamp", 4), ("lamp", 6), (None, 7), ("lamp", None), (None, 9)]
        self.assertEqual(house.thing("log"), ("v", entries))
        self.assertEqual(house.log("log"), Log(lamps(), entries))
        self.assertEqual([house.undo() for _ in range(5)], ["stood", "saw", "saw", "saw", "put"])
        self.assertEqual(house.made(), [])

    def test_entries_that_are_refused(self):
        house = full()
        ahead = state(house)
        cases = [(lambda: house.saw("log", "lamp", 3), ("BadEntry", 1)), (lambda: house.saw("log", "Lamp", 5), ("BadEntry", 1)),
                 (lambda: house.saw("log", None), ("BadEntry", 1)), (lambda: house.saw("log", 1, 5), ("BadEntry", 1)),
                 (lambda: house.saw("log", "lamp", (5, 1)), ("BadEntry", 1)), (lambda: house.stood("log", None), ("BadEntry", 1)),
                 (lambda: house.stood("log", 3), ("BadEntry", 1)), (lambda: house.stood("log", True), ("BadEntry", 1)),
                 (lambda: house.saw("log", "bell", 5), ("Crossed", 1))]
        for work, wanted in cases:
            self.assertEqual(fault(work), wanted)
        self.assertEqual(state(house), ahead)

    def test_put_raises_what_logs_raise(self):
        house = full()
        loop = Watcher([], {"p": {}}, [("p", None, [], [], "p")], [])
        house.put("loop", "watcher", loop)
        self.assertEqual(fault(lambda: house.put("new", "log", ("loop", []))), ("Looped", (0,)))
        self.assertEqual(fault(lambda: house.put("new", "log", ("v", [("lamp", 1), ("bell", 3)]))), ("Crossed", 1))
        self.assertEqual(fault(lambda: house.put("log", "log", ("v", [("bell", 1)]))), ("Crossed", 0))
        self.assertNotIn("new", house.kinds())
        house.put("log", "log", ("v", []))
        self.assertEqual(house.thing("log"), ("v", []))

    def test_broken(self):
        house = full()
        house.put("first", "log", ("w", [("door", 1)]))
        house.put("second", "log", ("v", [("lamp", 9)]))
        ahead = state(house)
        never = Watcher(["x"], {"p": {"x": ("below", 0)}}, [], [])
        loop = Watcher([], {"p": {}}, [("p", None, [], [], "p")], [])
        late = Watcher(["x"], {"p": {}}, [("p", "lamp", [("x", "from", 5)], [], "p")], [])
        for watcher in (never, loop):
            self.assertEqual(fault(lambda: house.put("v", "watcher", watcher)), ("Broken", "log"))
            self.assertEqual(fault(lambda: house.put("w", "watcher", watcher)), ("Broken", "first"))
        self.assertEqual(fault(lambda: house.put("v", "watcher", late)), ("Broken", "log"))
        self.assertEqual(state(house), ahead)
        house.put("log", "log", ("w", []))
        house.put("v", "watcher", late)
        self.assertEqual(fault(lambda: house.put("v", "watcher", doors())), ("Broken", "second"))
        self.assertEqual(house.log("second"), Log(late, [("lamp", 9)]))


class DeedTest(unittest.TestCase):
    def test_deeds_are_taken_back_and_done_again(self):
        house = House()
        self.assertEqual((house.undo(), house.again(), house.count(), house.kinds()), (None, None, 0, {}))
        house.put("v", "watcher", lamps())
        house.put("log", "log", ("v", []))
        house.put("v", "watcher", lamps())
        house.saw("log", "lamp", 4)
        house.stood("log", 5)
        house.put("t", "table", Table([], {}))
        house.drop("t")
        self.assertEqual(house.count(), 7)
        self.assertEqual([house.undo() for _ in range(8)], ["drop", "put", "stood", "saw", "put", "put", "put", None])
        self.assertEqual((house.count(), house.kinds()), (0, {}))
        self.assertEqual([house.again() for _ in range(5)], ["put", "put", "put", "saw", "stood"])
        self.assertEqual((house.count(), house.thing("log")), (5, ("v", [("lamp", 4), (None, 5)])))
        self.assertEqual(fault(lambda: house.put("v", "nothing", lamps())), ("BadKind", "nothing"))
        self.assertEqual(house.again(), "put")
        self.assertEqual(house.undo(), "put")
        house.saw("log", "lamp")
        self.assertEqual((house.again(), house.count()), (None, 6))

    def test_drop(self):
        house = full()
        for name, other in (("w", "b"), ("r", "b"), ("b", "m"), ("v", "log")):
            self.assertEqual(fault(lambda: house.drop(name)), ("Needed", name, other))
        house.put("z", "made", ("either", "m", "b"))
        self.assertEqual(fault(lambda: house.drop("b")), ("Needed", "b", "m"))
        house.put("m", "made", ("not", "w"))
        self.assertEqual(fault(lambda: house.drop("b")), ("Needed", "b", "z"))
        for name in ("z", "m", "b", "log", "v", "r", "w"):
            house.drop(name)
            self.assertEqual(fault(lambda: house.thing(name)), ("NoName", name))
        self.assertEqual(list(house.kinds()), ["t", "row"])
        house.undo()
        self.assertEqual(list(house.kinds()), ["w", "t", "row"])

    def test_undo_makes_nothing_and_what_was_made_stays_made(self):
        house = example()
        house.watcher("m")
        house.undo()
        house.undo()
        self.assertEqual(house.made(), ["b", "m"])
        house.again()
        house.again()
        house.watcher("m")
        self.assertEqual(house.made(), [])

    def test_trial(self):
        house = full()
        house.watcher("b")
        house.put("x", "row", [])
        house.undo()
        ahead = state(house)

        def work(other):
            self.assertIs(other, house)
            other.put("r", "rule", RULE[:4] + (9,))
            other.watcher("m")
            self.assertEqual(other.made(), ["b", "b", "m"])
            other.undo()
            other.undo()
            other.trial(lambda third: third.drop("row"))
            other.watcher("m")
            return other.count()

        self.assertEqual(house.trial(work), 7)
        self.assertEqual(state(house), ahead)
        house.watcher("m")
        self.assertEqual(house.made(), ["b", "m"])
        self.assertEqual(house.again(), "put")

    def test_a_trial_left_by_an_error(self):
        house = full()
        ahead = state(house)

        def fails(other):
            other.drop("t")
            other.watcher("m")
            other.drop("none")

        self.assertEqual(fault(lambda: house.trial(fails)), ("NoName", "none"))
        self.assertEqual(state(house), ahead)
        self.assertRaises(ZeroDivisionError, house.trial, lambda other: [other.undo(), 1 // 0])
        self.assertEqual(state(house), ahead)
        house.watcher("m")
        self.assertEqual(house.made(), ["b", "m"])

    def test_copies_go_on_apart(self):
        house = full()
        house.watcher("b")
        house.undo()
        other = house.copy()
        self.assertEqual(state(other), state(house))
        ahead = state(house)
        self.assertEqual(other.made(), ["b"])
        other.watcher("m")
        self.assertEqual(other.made(), ["m"])
        self.assertEqual(other.again(), "put")
        other.put("r", "rule", RULE[:4] + (9,))
        other.saw("log", "lamp", 5)
        other.drop("t")
        self.assertEqual(state(house), ahead)
        behind = state(other)
        house.watcher("m")
        self.assertEqual(house.made(), ["b", "m"])
        house.undo()
        house.drop("row")
        self.assertEqual(state(other), behind)


class Model:
    """A house told by plain lists: what it keeps, behind each deed, and what was made, of what."""

    def __init__(self):
        self.done, self.again, self.made, self.names = [("", [])], [], {}, []

    def kept(self):
        return {name: (kind, thing) for name, kind, thing in self.done[-1][1]}

    def do(self, word, kept):
        self.done.append((word, kept))
        self.again.clear()

    def put(self, name, kind, thing):
        kept = list(self.done[-1][1])
        at = [spot for spot, entry in enumerate(kept) if entry[0] == name]
        kept[at[0] if at else len(kept):at[0] + 1 if at else len(kept)] = [(name, kind, thing)]
        self.do("put", kept)

    def drop(self, name):
        self.do("drop", [entry for entry in self.done[-1][1] if entry[0] != name])

    def undo(self):
        if len(self.done) == 1:
            return None
        self.again.append(self.done.pop())
        return self.again[-1][0]

    def redo(self):
        if not self.again:
            return None
        self.done.append(self.again.pop())
        return self.done[-1][0]

    def ask(self, name):
        """Note what is made when a watcher is asked for."""
        kind, thing = self.kept()[name]
        if kind == "made" and self.made.get(name) != self.tree(name):
            for inner in thing[1:]:
                if self.kept()[inner][0] == "made":
                    self.ask(inner)
            self.made[name] = self.tree(name)
            self.names.append(name)

    def tree(self, name):
        kind, thing = self.kept()[name]
        inner = thing[1:] if kind == "made" else []
        return (name, thing, [self.tree(other) for other in inner])


class ModelTest(unittest.TestCase):
    def test_against_plain_lists(self):
        rolls = random.Random(3)
        words, names = Counter(), Counter()
        for _ in range(120):
            house, model = House(), Model()
            for _ in range(40):
                words[self.step(rolls, house, model)] += 1
                if rolls.random() < 0.3:
                    self.assertEqual(house.made(), model.names)
                    names.update(model.names)
                    model.names = []
                self.assertEqual(list(house.kinds().items()), [entry[:2] for entry in model.done[-1][1]])
                self.assertEqual(house.count(), len(model.done) - 1)
        self.assertGreater(min(words[word] for word in ("put", "drop", "undo", "again", "ask", "trial", "refused")), 15)
        self.assertGreater(sum(names.values()), 50)

    def step(self, rolls, house, model):
        kind = rolls.choice(["put", "put", "put", "put", "drop", "undo", "again", "ask", "ask", "ask", "trial"])
        if kind in ("undo", "again"):
            self.assertEqual(house.undo() if kind == "undo" else house.again(), model.undo() if kind == "undo" else model.redo())
        elif kind == "trial":
            house.trial(lambda other: [self.step(rolls, other, Blank()) for _ in range(3)])
        elif kind == "ask":
            watching = [name for name, (sort, _) in model.kept().items() if sort in ("watcher", "made")]
            if watching:
                name = rolls.choice(watching)
                if error_of(lambda: house.watcher(name)) is None:
                    model.ask(name)
        elif kind == "drop":
            name = rolls.choice("abcdefwvr")
            if error_of(lambda: house.drop(name)) is not None:
                return "refused"
            model.drop(name)
        else:
            name, sort, thing = self.random_thing(rolls)
            if error_of(lambda: house.put(name, sort, thing)) is not None:
                return "refused"
            model.put(name, sort, thing)
        return kind

    def random_thing(self, rolls):
        sort = rolls.choice(["watcher", "rule", "made", "made"])
        if sort == "watcher":
            limit = {"x": ("upto", rolls.randint(2, 3))}
            return rolls.choice("wv"), sort, Watcher(["x"], {"shut": {}, "open": limit}, doors().arrows(), ["shut"])
        if sort == "rule":
            return "r", sort, RULE[:4] + (rolls.randint(1, 2),)
        word = rolls.choice(["not", "by", "by", "both"])
        inner = [rolls.choice("wwvabc") for _ in range(1 if word == "not" else 2)]
        return rolls.choice("abc"), sort, (word, "r", inner[0]) if word == "by" else (word,) + tuple(inner)


class Blank(Model):
    """A model that nobody looks at: deeds of a trial are not noted."""

    def kept(self):
        return {}

    def drop(self, name):
        pass

    def undo(self):
        return AnyWord()

    redo = undo


class AnyWord:
    def __eq__(self, other):
        return other is None or isinstance(other, str)


class TextTest(unittest.TestCase):
    def test_the_text(self):
        house = full()
        text = ("keep watcher w\n" + DOORS + "kept\nkeep rule r\nsince bell door upto 3\nkept\nkeep made b\nby r w\nkept\n"
                "keep made m\nboth w b\nkept\nkeep table t\nnames a\nbound a . upto 3\nkept\nkeep row row\nat 1/2 door\nat 3 bell\nkept\n"
                "keep watcher v\nclocks x\nplace calm\nplace alarm\narrow calm . alarm if x from 3 new x\n"
                "arrow alarm lamp calm if x upto 2\narrow calm lamp calm\nends\nkept\nkeep log log\nof v\nsaw lamp 4\nkept\n")
        self.assertEqual(write_house(house), text)
        other = read_house(text)
        self.assertEqual((write_house(other), other.count(), other.made()), (text, 8, []))
        self.assertEqual(list(other.kinds().items()), list(house.kinds().items()))
        self.assertEqual([other.undo() for _ in range(9)], ["put"] * 8 + [None])
        self.assertEqual(write_house(House()), "")
        self.assertEqual((read_house("").kinds(), read_house("").count()), ({}, 0))

    def test_names_stand_behind_all_names_in_their_things(self):
        house = House()
        for name, kind, thing in (("w", "watcher", doors()), ("m", "made", ("not", "w")), ("l", "log", ("w", [])),
                                  ("z", "made", ("not", "w")), ("r", "rule", RULE), ("b", "made", ("by", "r", "z"))):
            house.put(name, kind, thing)
        house.put("v", "watcher", doors())
        house.put("m", "made", ("either", "b", "v"))
        house.put("l", "log", ("v", []))
        order = [line.split(" ")[2] for line in write_house(house).split("\n") if line.startswith("keep ")]
        self.assertEqual(order, ["w", "z", "r", "b", "v", "m", "l"])
        other = read_house(write_house(house))
        self.assertEqual(list(other.kinds()), order)
        self.assertEqual(write_house(other), write_house(house))

    def test_names_that_are_words_of_texts(self):
        house = House()
        house.put("keep", "watcher", Watcher(["kept"], {"kept": {}}, [("kept", "keep", [], [], "kept")], ["kept"]))
        house.put("kept", "row", [("kept", (1, 2))])
        house.put("of", "log", ("keep", [("keep", 3)]))
        house.put("made", "made", ("not", "keep"))
        house.put("log", "table", Table(["kept", "names"], {("kept", "names"): ("below", -3)}))
        house.put("row", "rule", ("soon", "keep", "kept", "upto", 1))
        text = write_house(house)
        self.assertEqual(write_house(read_house(text)), text)

    def test_any_objects(self):
        for thing in strange_objects() + ["\n", "keep", "kept\n", "keep row r\n", "keep row r\nkept", b""]:
            if thing != "":
                error = error_of(lambda: read_house(thing))
                self.assertEqual((error.__class__.__name__, error.thing is thing), ("BadText", True))

    def test_texts_that_are_refused(self):
        row, rule = "keep row t\nkept\n", "keep rule r\nsince bell door upto 3\nkept\n"
        watcher = "keep watcher w\n" + DOORS + "kept\n"
        texts = [
            row + row, "keep row t\nkept\n\n", "keep row t\n", "keep row\nkept\n", "keep row t u\nkept\n", "keep row T\nkept\n",
            "keep rows t\nkept\n", "keep table t\nkept\n", "keep rule r\nkept\n", "keep made m\nkept\n", "keep log l\nkept\n",
            "keep watcher w\nkept\n", row + "keep table t\nnames\nkept\n", "keep made m\nnot w\nkept\n" + watcher,
            watcher + "keep made m\nnot m\nkept\n", watcher + "keep made m\nnot w w\nkept\n", watcher + "keep made m\nnot w\nnot w\nkept\n",
            watcher + "keep log l\nof w\nsaw bell 1\nkept\n", watcher + "keep log l\nof v\nkept\n", watcher + "keep log l\nsaw door 1\nkept\n",
            watcher + rule + "keep made m\nby w r\nkept\n", watcher + "keep log l\nof w\nsaw door 3\nsaw door 1\nkept\n",
            "keep row t\nat 2 a\nat 1 a\nkept\n", "keep row t\nat 2/4 a\nkept\n", "keep row t\nkept \n", "keep  row t\nkept\n",
            "keep row t\nkept\nkept\n", "kept\n" + row, watcher + watcher]
        for text in texts:
            error = error_of(lambda: read_house(text))
            self.assertIsInstance(error, BadText, text)
            self.assertIs(error.thing, text)
        self.assertEqual(read_house(watcher + rule + row).count(), 3)

    def test_both_ways(self):
        rolls = random.Random(4)
        refused = 0
        for _ in range(60):
            house = House()
            for _ in range(12):
                self.put_any(rolls, house)
            text = write_house(house)
            other = read_house(text)
            self.assertEqual(write_house(other), text)
            self.assertEqual((other.count(), other.made()), (len(house.kinds()), []))
            for name in house.kinds():
                self.assertEqual(other.thing(name), house.thing(name))
            changed = bent(rolls, text) if text else "\n"
            error = error_of(lambda: read_house(changed))
            if error is None:
                self.assertEqual(write_house(read_house(changed)), changed)
            else:
                self.assertEqual((error.__class__.__name__, error.thing is changed), ("BadText", True))
                refused += 1
        self.assertGreater(refused, 25)

    def put_any(self, rolls, house):
        things = {"table": lambda: random_table(rolls, ["a", "b"]), "watcher": lambda: random_watcher(rolls),
                  "row": lambda: random_row(rolls, "ab", 3), "rule": lambda: random_rule(rolls, "ab"),
                  "made": lambda: rolls.choice([("not", rolls.choice("abcd")), ("both", rolls.choice("abcd"), rolls.choice("abcd")),
                                                ("by", rolls.choice("abcd"), rolls.choice("abcd"))]),
                  "log": lambda: (rolls.choice("abcd"), [("a", None)] * rolls.randint(0, 2))}
        kind = rolls.choice(list(things))
        try:
            house.put(rolls.choice("abcd"), kind, things[kind]())
        except ClockError:
            pass


class SoonTest(unittest.TestCase):
    def test_as_great_as_the_limits_let(self):
        rolls = random.Random(5)
        slowest = 0
        for _ in range(12):
            house = House()
            house.put("w", "watcher", random_sure(rolls, clocks=1, places=4, arrows=8, most=6, signals="abc"))
            house.put("v", "watcher", random_sure(rolls, clocks=1, places=4, arrows=8, most=6, signals="abc"))
            house.put("r", "rule", ("since", "a", "b", "upto", 7))
            house.put("row", "row", random_row(rolls, "abc", 8))
            house.put("b", "made", ("by", "r", "w"))
            house.put("c", "made", ("either", "b", "v"))
            house.put("m", "made", ("less", "c", "w"))
            works = [lambda: house.watcher("m"), lambda: house.judged("m", "r"), lambda: house.tells("m", "row"),
                     lambda: house.parting("m", "w"), lambda: write_house(house), lambda: read_house(write_house(house))]
            for work in works:
                begin = time.monotonic()
                error_of(work)
                slowest = max(slowest, time.monotonic() - begin)
        self.assertLess(slowest, 2)


if __name__ == "__main__":
    unittest.main()
