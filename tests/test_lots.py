"""[28], [29] and [30]."""

import random
import time
import unittest

from rowsintime.closing import closed
from rowsintime.errors import NoPlace
from rowsintime.lots import closed_list, comes, is_closed_list, shortest, shows_never
from rowsintime.points import point
from rowsintime.runs import ended, is_run
from rowsintime.tables import Table
from rowsintime.watchers import Watcher
from tests.helper import (
    Reckoned, bent_lots, caps_of, error_of, exact_run, is_closed_by_tables, random_watcher, stands_behind, strange_objects)


def doors():
    """The example of [27]."""
    return Watcher(["x"], {"shut": {}, "open": {"x": ("upto", 3)}},
                   [("shut", "door", [], ["x"], "open"), ("open", "bell", [("x", "above", 1)], [], "shut")], ["shut"])


def halves():
    """A watcher whose place r is come to just if an arrow goes at a time that is no integer."""
    return Watcher(["x", "y"], {"p": {}, "q": {}, "r": {}}, [
        ("p", "a", [("x", "above", 0), ("x", "below", 1)], ["y"], "q"),
        ("q", None, [("x", "from", 1), ("x", "upto", 1), ("y", "above", 0)], [], "r")], ["r"])


def clocks_in_step(lengths):
    """A watcher with clocks that go round, each by its own length; q is come to when all of them are at their ends."""
    clocks = ["x", "y", "z"][:len(lengths)]
    ends = [(clock, "from", length) for clock, length in zip(clocks, lengths)]
    arrows = [("p", "abc"[at], [ends[at]], [clock], "p") for at, clock in enumerate(clocks)]
    limit = {clock: ("upto", length) for clock, length in zip(clocks, lengths)}
    return Watcher(clocks, {"p": limit, "q": {}}, arrows + [("p", "d", ends, [], "q")], ["q"])


def at_zero(names):
    """All worths from 0 on."""
    return Table(names, {("", name): ("upto", 0) for name in names})


class ComesTest(unittest.TestCase):
    def test_the_example(self):
        self.assertEqual([comes(doors(), place) for place in ("shut", "open")], [True, True])
        self.assertEqual(shortest(doors(), "shut"), [])
        self.assertEqual([number for number, _ in shortest(doors(), "open")], [0])

    def test_times_between_integers(self):
        self.assertIs(comes(halves(), "r"), True)
        run = shortest(halves(), "r")
        self.assertEqual([number for number, _ in run], [0, 1])
        self.assertIs(is_run(halves(), run), True)

    def test_a_place_that_no_arrow_leads_to(self):
        watcher = Watcher([], {"p": {}, "q": {}}, [("q", "a", [], [], "p")], [])
        self.assertEqual([comes(watcher, "p"), comes(watcher, "q")], [True, False])
        self.assertIsNone(shortest(watcher, "q"))

    def test_no_place_comes_where_the_first_one_cannot_be_held(self):
        watcher = Watcher(["x"], {"p": {"x": ("below", 0)}, "q": {}}, [("p", "a", [], ["x"], "q")], [])
        self.assertEqual([comes(watcher, "p"), comes(watcher, "q")], [False, False])
        self.assertEqual([shortest(watcher, "p"), shortest(watcher, "q")], [None, None])

    def test_as_few_arrows_as_can_be(self):
        # The arrow straight to r never goes: its place is left by 1.
        watcher = Watcher(["x"], {"p": {"x": ("upto", 1)}, "q": {}, "r": {}}, [
            ("p", "a", [("x", "from", 1)], ["x"], "p"), ("p", "b", [], [], "q"), ("q", "c", [("x", "from", 5)], [], "r"),
            ("p", "d", [("x", "from", 2)], [], "r")], [])
        self.assertEqual([number for number, _ in shortest(watcher, "r")], [1, 2])
        counting = Watcher(["x", "y"], {"p": {"x": ("upto", 1)}, "q": {}}, [
            ("p", "a", [("x", "from", 1)], ["x"], "p"), ("p", "b", [("y", "from", 7), ("x", "upto", 0)], [], "q")], [])
        self.assertEqual(len(shortest(counting, "q")), 8)

    def test_a_long_way(self):
        watcher = clocks_in_step([3, 4, 5])
        begin = time.process_time()
        run = shortest(watcher, "q")
        self.assertLess(time.process_time() - begin, 1)
        self.assertIs(is_run(watcher, run), True)
        self.assertEqual(run[-1], (3, (60, 1)))
        # All rounds but the last one of each clock.
        self.assertEqual(len(run), 19 + 14 + 11 + 1)

    def test_no_place(self):
        for thing in strange_objects() + ["late", "door", ["shut"]]:
            for work in (lambda: comes(doors(), thing), lambda: shortest(doors(), thing),
                         lambda: shows_never(doors(), thing, None)):
                error = error_of(work)
                self.assertIsInstance(error, NoPlace)
                self.assertIs(error.name, thing)

    def test_by_name(self):
        self.assertIs(comes(place="open", watcher=doors()), True)
        self.assertEqual(shortest(place="shut", watcher=doors()), [])
        self.assertIs(is_closed_list(thing=closed_list(watcher=doors()), watcher=doors()), True)
        self.assertIs(shows_never(thing=[], place="shut", watcher=doors()), False)


class ClosedListTest(unittest.TestCase):
    def test_the_example(self):
        lots = closed_list(doors())
        self.assertEqual(sorted({place for place, _ in lots}), ["open", "shut"])
        for place, table in lots:
            self.assertEqual(table.names(), ["x"])
            self.assertEqual(closed(table), table)
        self.assertIs(is_closed_list(doors(), lots), True)

    def test_lists_and_tuples_alike(self):
        lots = [("shut", at_zero(["x"])), ("open", at_zero(["x"]))]
        for thing in (lots, tuple(lots), [list(lot) for lot in lots], lots[::-1], lots + lots):
            self.assertIs(is_closed_list(doors(), thing), True)

    def test_all_the_rest_is_of_no_use_but_let(self):
        lots = closed_list(doors())
        empty = Table(["x"], {("x", ""): ("below", 0), ("", "x"): ("upto", 0)})
        below = Table(["x"], {("x", ""): ("below", 0)})
        for more in (empty, below, Table(["x"], {("x", ""): ("upto", -2)})):
            self.assertIs(is_closed_list(doors(), lots + [("open", more)]), True)
            self.assertIs(is_closed_list(doors(), [("open", more)]), False)
            self.assertIs(is_closed_list(doors(), [("open", more), ("shut", more)]), False)

    def test_worths_below_zero_count_for_nothing(self):
        # As it stands this table has the point -1, from which an arrow upto 0 leads to s; taken from 0 on it has none.
        watcher = Watcher(["x"], {"p": {"x": ("upto", 0)}, "q": {}, "s": {}},
                          [("p", "a", [], [], "q"), ("q", "b", [("x", "below", 0)], [], "s")], [])
        lots = [("p", Table(["x"], {("x", ""): ("upto", 0)})), ("q", Table(["x"], {}))]
        self.assertIs(is_closed_list(watcher, lots), True)
        self.assertIs(shows_never(watcher, "s", lots), True)

    def test_tables_that_are_not_closed(self):
        watcher = Watcher(["x", "y"], {"p": {"x": ("upto", 2)}}, [], [])
        loose = Table(["x", "y"], {("y", "x"): ("upto", 0), ("x", ""): ("upto", 3), ("x", "y"): ("upto", 1)})
        self.assertIs(is_closed_list(watcher, [("p", loose)]), True)
        self.assertIs(is_closed_list(watcher, [("p", Table(["x", "y"], {("x", ""): ("below", 2)}))]), False)

    def test_one_lot_has_to_hold_all(self):
        watcher = Watcher(["x"], {"p": {}}, [], [])
        low = Table(["x"], {("x", ""): ("upto", 2)})
        high = Table(["x"], {("", "x"): ("upto", -1)})
        self.assertIs(is_closed_list(watcher, [("p", low), ("p", high)]), False)
        self.assertIs(is_closed_list(watcher, [("p", low), ("p", high), ("p", at_zero(["x"]))]), True)

    def test_what_lies_beyond_is_let_go(self):
        # Without letting go of what lies beyond 2 each round would make one more lot.
        watcher = Watcher(["x", "y"], {"p": {"x": ("upto", 1)}, "q": {}}, [
            ("p", "a", [("x", "from", 1)], ["x"], "p"), ("p", "b", [("y", "upto", 2), ("y", "below", 2)], [], "p")], [])
        self.assertIs(is_closed_list(watcher, closed_list(watcher)), True)
        exact = []
        for number in range(4):
            bounds = {("x", ""): ("upto", 1), ("y", "x"): ("upto", number), ("x", "y"): ("upto", -number)}
            exact.append(("p", Table(["x", "y"], bounds)))
        self.assertIs(is_closed_list(watcher, exact), False)
        beyond_two = Table(["x", "y"], {("x", ""): ("upto", 1), ("", "y"): ("below", -2)})
        self.assertIs(is_closed_list(watcher, exact[:3] + [("p", beyond_two)]), True)
        beyond_three = Table(["x", "y"], {("x", ""): ("upto", 1), ("", "y"): ("upto", -3)})
        self.assertIs(is_closed_list(watcher, exact[:3] + [("p", beyond_three)]), False)

    def test_numbers_of_arrows_that_never_go_count(self):
        # Here most of x is 5, so at 3 nothing is let go; it would be if the last arrow were not looked at.
        watcher = Watcher(["x"], {"p": {"x": ("upto", 3)}, "q": {"x": ("below", 0)}},
                          [("p", "a", [("x", "from", 3)], [], "p"), ("p", "b", [("x", "from", 5)], ["x"], "q")], [])
        self.assertIs(is_closed_list(watcher, [("p", Table(["x"], {("x", ""): ("upto", 3)}))]), True)

    def test_any_objects(self):
        for thing in strange_objects():
            self.assertIs(is_closed_list(doors(), thing), False)
            self.assertIs(is_closed_list(doors(), [thing]), False)
            lots = closed_list(doors())
            self.assertIs(is_closed_list(doors(), lots + [thing]), False)
            self.assertIs(is_closed_list(doors(), lots + [(thing, at_zero(["x"]))]), False)
            self.assertIs(is_closed_list(doors(), lots + [("open", thing)]), False)
        for table in (at_zero([]), at_zero(["y"]), at_zero(["x", "y"]), at_zero(["y", "x"])):
            self.assertIs(is_closed_list(doors(), closed_list(doors()) + [("open", table)]), False)
        for lot in (("open",), ("open", at_zero(["x"]), 1)):
            self.assertIs(is_closed_list(doors(), closed_list(doors()) + [lot]), False)

    def test_without_a_first_lot(self):
        watcher = Watcher(["x"], {"p": {"x": ("below", 0)}, "q": {}}, [("p", "a", [], ["x"], "q")], [])
        self.assertEqual(closed_list(watcher), [])
        for place in ("p", "q"):
            self.assertIs(shows_never(watcher, place, []), True)
        self.assertIs(is_closed_list(watcher, ()), True)
        self.assertIs(is_closed_list(watcher, [("p", at_zero(["x"]))]), True)

    def test_without_clocks(self):
        watcher = Watcher([], {"p": {}, "q": {}, "r": {}}, [("p", None, [], [], "q"), ("r", "a", [], [], "p")], [])
        whole = Table([], {})
        self.assertEqual(sorted(place for place, _ in closed_list(watcher)), ["p", "q"])
        self.assertIs(is_closed_list(watcher, [("p", whole)]), False)
        self.assertIs(is_closed_list(watcher, [("p", whole), ("q", whole)]), True)
        self.assertIs(shows_never(watcher, "r", [("p", whole), ("q", whole)]), True)
        self.assertIs(shows_never(watcher, "r", [("p", whole), ("q", whole), ("r", whole)]), False)

    def test_nothing_is_changed(self):
        lots = [list(lot) for lot in closed_list(doors())]
        again = [list(lot) for lot in lots]
        is_closed_list(doors(), lots)
        shows_never(doors(), "open", lots)
        self.assertEqual(lots, again)


class NeverTest(unittest.TestCase):
    def test_a_place_that_stands_nowhere(self):
        watcher = clocks_in_step([2, 3])
        late = Watcher(watcher.clocks(), {"p": watcher.limit("p"), "q": {}, "r": {}},
                       watcher.arrows() + [("p", "e", [("x", "from", 1), ("x", "upto", 1), ("y", "upto", 0)], [], "r"),
                                           ("p", "e", [("x", "above", 2)], [], "q")], [])
        self.assertIs(comes(late, "q"), True)
        # Two rounds of x are 1 more than one of y.
        self.assertIs(comes(late, "r"), True)
        never = Watcher(watcher.clocks(), {"p": watcher.limit("p"), "q": {}},
                        watcher.arrows()[:2] + [("p", "e", [("x", "above", 1), ("x", "below", 2), ("y", "upto", 0)], [], "q")], [])
        self.assertIs(comes(never, "q"), False)
        paper = closed_list(never)
        self.assertIs(shows_never(never, "q", paper), True)
        self.assertIs(shows_never(never, "p", paper), False)
        empty = Table(["x", "y"], {("x", ""): ("below", 0)})
        self.assertIs(shows_never(never, "q", paper + [("q", empty)]), False)
        self.assertIs(is_closed_list(never, paper + [("q", empty)]), True)

    def test_any_objects(self):
        for thing in strange_objects():
            self.assertIs(shows_never(doors(), "open", thing), False)


class ManyTest(unittest.TestCase):
    def test_all_regions_tried(self):
        rolls = random.Random(28)
        lengths = {}
        for at in range(250):
            watcher = random_watcher(rolls, clocks=rolls.choice([0, 1, 2, 2, 3]), places=4, arrows=rolls.randint(2, 8), cuts=2,
                                     most=2, unseen=0.3, limits=rolls.choice([0, 0.4]))
            fewest = {}
            for many, stands in enumerate(Reckoned(watcher).entries()):
                for place, _ in stands:
                    fewest.setdefault(place, many)
            paper = closed_list(watcher)
            self.assertEqual({place for place, _ in paper}, set(fewest))
            for place in watcher.places():
                self.check(watcher, place, fewest.get(place), paper)
                length = fewest.get(place)
                lengths[length] = lengths.get(length, 0) + 1
        for length in (None, 0, 1, 2, 3):
            self.assertGreater(lengths[length], 1)

    def check(self, watcher, place, many, paper):
        self.assertIs(comes(watcher, place), many is not None)
        self.assertIs(shows_never(watcher, place, paper), many is None)
        run = shortest(watcher, place)
        if many is None:
            self.assertIsNone(run)
            return
        self.assertEqual(len(run), many)
        self.assertEqual(stands_behind(watcher, exact_run(run))[0], place)
        self.assertEqual(ended(watcher, run), place)
        self.assertEqual(run, shortest(watcher, place))

    def test_papers_looked_through_by_tables(self):
        rolls = random.Random(30)
        told = {True: 0, False: 0}
        for _ in range(150):
            watcher = random_watcher(rolls, clocks=rolls.choice([1, 2, 2, 3]), places=3, arrows=6, cuts=2, most=3)
            most = caps_of(watcher)
            lots = closed_list(watcher)
            self.assertTrue(is_closed_by_tables(watcher, lots, most))
            self.assertIs(is_closed_list(watcher, lots), True)
            for place, table in lots:
                self.assertIsNotNone(point(table))
            for _ in range(4):
                bent = bent_lots(rolls, bent_lots(rolls, lots))
                is_well = is_closed_by_tables(watcher, bent, most)
                told[is_well] += 1
                self.assertIs(is_closed_list(watcher, bent), is_well)
                for place in watcher.places():
                    is_shown = is_well and place not in [at for at, _ in bent]
                    self.assertIs(shows_never(watcher, place, bent), is_shown)
        self.assertGreater(min(told.values()), 50)


class SoonTest(unittest.TestCase):
    def test_watchers_as_large_as_can_be(self):
        rolls = random.Random(29)
        for _ in range(60):
            watcher = random_watcher(rolls, clocks=3, places=6, arrows=12, cuts=rolls.randint(1, 4), most=12, limits=0.2)
            begin = time.process_time()
            lots = closed_list(watcher)
            self.assertIs(is_closed_list(watcher, lots), True)
            for place in watcher.places():
                self.assertIs(comes(watcher, place), shortest(watcher, place) is not None)
            self.assertLess(time.process_time() - begin, 2)

    def test_clocks_that_go_round_each_by_its_own(self):
        for arrows in ([(9, 10), (10, 11), (11, 12)], [(7, 7), (11, 11), (12, 12)], [(3, 4), (5, 7), (7, 9)]):
            clocks = ["x", "y", "z"]
            rounds = [("p", "a", [(clock, "from", low), (clock, "upto", high)], [clock], "p")
                      for clock, (low, high) in zip(clocks, arrows)]
            limit = {clock: ("upto", high) for clock, (_, high) in zip(clocks, arrows)}
            for limits in ({"p": limit, "q": {}}, {"p": {}, "q": {}}):
                never = [("p", "b", [("x", "above", 0), ("x", "below", 0)], [], "q")]
                watcher = Watcher(clocks, limits, rounds + never, [])
                begin = time.process_time()
                self.assertIs(shows_never(watcher, "q", closed_list(watcher)), True)
                self.assertIsNone(shortest(watcher, "q"))
                self.assertLess(time.process_time() - begin, 1)


if __name__ == "__main__":
    unittest.main()
