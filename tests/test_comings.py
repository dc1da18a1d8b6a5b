"""[31], [32], [33], [34], and the example of [35]."""

import random
import time as clock_time
import unittest
from fractions import Fraction

from rowsintime.changes import beyond, earlier
from rowsintime.closing import within
from rowsintime.comings import earliest, is_stuck, run_at, shows_not_by, stuck, times
from rowsintime.errors import BadNumber, BadTime, NoPlace
from rowsintime.lots import comes
from rowsintime.points import is_point
from rowsintime.runs import ended, is_run, worths
from rowsintime.tables import Table
from rowsintime.watchers import Watcher
from tests.helper import (
    Reckoned, bent_lots, caps_of, cut_by, error_of, exact_run, fault, first_table, fraction, is_closed_by_tables, led_to,
    limit_cuts, pair_of, random_watcher, stands_behind, strange_objects, stretches_of_edges)
from tests.test_lots import at_zero, clocks_in_step, doors


def never_doors():
    """The other watcher of the example of [35]: its bell comes too late."""
    return Watcher(["x"], {"shut": {}, "open": {"x": ("upto", 3)}},
                   [("shut", "door", [], ["x"], "open"), ("open", "bell", [("x", "above", 3)], [], "shut")], ["shut"])


def to_q(*cuts, limit=None):
    """A watcher whose arrows lead from p to q, each by a list of cuts of x, told by words and numbers."""
    arrows = [("p", "a", [("x",) + cut for cut in asked], [], "q") for asked in cuts]
    return Watcher(["x"], {"p": limit or {}, "q": {}}, arrows, ["q"])


def lots_with_ages(watcher, most):
    """A list of lots with ages, closed as [34] asks, made by tables."""
    caps = dict(caps_of(watcher), age=most)
    first = first_table(watcher, ["age"])
    lots = [] if first is None else [(watcher.places()[0], first)]
    for place, table in lots:
        for arrow in watcher.arrows():
            behind = led_to(watcher, table, arrow) if arrow[0] == place else None
            behind = behind and beyond(behind, caps)
            if behind and not any(within(behind, other) for at, other in lots if at == arrow[4]):
                lots.append((arrow[4], behind))
    return lots


def is_paper_not_by(watcher, place, n, lots):
    """What [34] asks of a list of lots with ages, looked through by tables."""
    for at, table in lots:
        if at == place and cut_by(table, [("age", "upto", n)]) is not None:
            return False
    return is_closed_by_tables(watcher, lots, dict(caps_of(watcher), age=n), ["age"])


class TimesTest(unittest.TestCase):
    def test_the_example(self):
        self.assertEqual(times(doors(), "open", 2), [(("from", 0), ("upto", 2))])
        self.assertEqual(times(doors(), "shut", 4), [(("from", 0), ("upto", 0)), (("above", 1), ("upto", 4))])
        self.assertEqual(earliest(doors(), "open"), ("from", 0))
        self.assertEqual(earliest(doors(), "shut"), ("from", 0))

    def test_stretches_as_few_as_can_be(self):
        two = to_q([("from", 1), ("below", 2)], [("above", 2)])
        self.assertEqual(times(two, "q", 4), [(("from", 1), ("below", 2)), (("above", 2), ("upto", 4))])
        one = to_q([("from", 1), ("below", 2)], [("from", 2)])
        self.assertEqual(times(one, "q", 4), [(("from", 1), ("upto", 4))])
        self.assertEqual(times(to_q([("upto", 2)], [("above", 2)]), "q", 9), [(("from", 0), ("upto", 9))])
        points = to_q([("from", 3), ("upto", 3)], [("upto", 0)], [("above", 5), ("below", 6)])
        self.assertEqual(times(points, "q", 9), [(("from", 0), ("upto", 0)), (("from", 3), ("upto", 3)),
                                                 (("above", 5), ("below", 6))])

    def test_up_to_most(self):
        watcher = to_q([("above", 2)])
        self.assertEqual(times(watcher, "q", 2), [])
        self.assertEqual(times(watcher, "q", 3), [(("above", 2), ("upto", 3))])
        self.assertEqual(times(to_q([("from", 2)]), "q", 2), [(("from", 2), ("upto", 2))])
        self.assertEqual(times(to_q([("below", 2)]), "q", 2), [(("from", 0), ("below", 2))])
        self.assertEqual(times(watcher, "p", 0), [(("from", 0), ("upto", 0))])

    def test_the_time_of_the_last_arrow_not_of_waits(self):
        watcher = Watcher(["x"], {"p": {"x": ("upto", 1)}, "q": {}}, [("p", "a", [], [], "q")], [])
        self.assertEqual(times(watcher, "q", 9), [(("from", 0), ("upto", 1))])
        self.assertEqual(times(watcher, "p", 9), [(("from", 0), ("upto", 0))])

    def test_where_the_first_place_cannot_be_held(self):
        watcher = Watcher(["x"], {"p": {"x": ("below", 0)}, "q": {}}, [("p", "a", [], ["x"], "q")], [])
        for place in ("p", "q"):
            self.assertEqual(times(watcher, place, 5), [])
            self.assertIsNone(earliest(watcher, place))
            self.assertIsNone(run_at(watcher, place, (0, 1)))

    def test_time_that_stands_still(self):
        watcher = Watcher(["x"], {"p": {"x": ("upto", 0)}, "q": {"x": ("upto", 0)}, "r": {}}, [
            ("p", "a", [], ["x"], "q"), ("q", "b", [], [], "p"), ("q", "c", [("x", "above", 0)], [], "r")], [])
        self.assertEqual([times(watcher, place, 9) for place in "pqr"],
                         [[(("from", 0), ("upto", 0))], [(("from", 0), ("upto", 0))], []])
        self.assertEqual([earliest(watcher, place) for place in "pqr"], [("from", 0), ("from", 0), None])
        self.assertEqual([number for number, _ in run_at(watcher, "q", (0, 1))], [0])
        self.assertIsNone(run_at(watcher, "q", (1, 5)))

    def test_earliest(self):
        self.assertEqual(earliest(to_q([("above", 2)], [("from", 3)]), "q"), ("above", 2))
        self.assertEqual(earliest(to_q([("above", 3)], [("from", 3)]), "q"), ("from", 3))
        self.assertIsNone(earliest(to_q([("above", 3), ("below", 3)]), "q"))
        watcher = Watcher(["x"], {"p": {}, "q": {}, "r": {}}, [
            ("p", "a", [("x", "above", 1)], ["x"], "q"), ("q", "b", [("x", "above", 1)], ["x"], "r"),
            ("q", "b", [("x", "from", 2), ("x", "upto", 2)], ["x"], "p")], [])
        self.assertEqual(earliest(watcher, "r"), ("above", 2))
        self.assertEqual(earliest(watcher, "p"), ("from", 0))

    def test_earliest_far_beyond_most(self):
        begin = clock_time.process_time()
        self.assertEqual(earliest(clocks_in_step([7, 8, 9]), "q"), ("from", 504))
        self.assertEqual(times(clocks_in_step([7, 8, 9]), "q", 20), [])
        self.assertEqual(times(clocks_in_step([2, 3, 4]), "q", 30), [(("from", at), ("upto", at)) for at in (12, 24)])
        self.assertLess(clock_time.process_time() - begin, 2)

    def test_no_place(self):
        for thing in strange_objects() + ["late"]:
            for work in (lambda: times(doors(), thing, None), lambda: earliest(doors(), thing),
                         lambda: run_at(doors(), thing, None), lambda: shows_not_by(doors(), thing, None, None)):
                error = error_of(work)
                self.assertIsInstance(error, NoPlace)
                self.assertIs(error.name, thing)

    def test_bad_numbers(self):
        for thing in strange_objects() + [-5, (3, 1)]:
            if isinstance(thing, int) and not isinstance(thing, bool) and thing >= 0:
                continue
            for work in (lambda: times(doors(), "open", thing), lambda: shows_not_by(doors(), "open", thing, None)):
                error = error_of(work)
                self.assertIsInstance(error, BadNumber)
                self.assertIs(error.thing, thing)

    def test_by_name(self):
        self.assertEqual(times(most=0, place="open", watcher=doors()), [(("from", 0), ("upto", 0))])
        self.assertEqual(earliest(place="open", watcher=doors()), ("from", 0))
        self.assertEqual(run_at(time=(0, 1), place="shut", watcher=doors()), [])
        self.assertIs(is_stuck(run=[], watcher=doors()), False)
        self.assertIsNone(stuck(watcher=doors()))
        self.assertIs(shows_not_by(thing=[], n=1, place="open", watcher=doors()), False)


class RunAtTest(unittest.TestCase):
    def test_the_example(self):
        self.assertEqual(run_at(doors(), "open", (1, 3)), [(0, (1, 3))])
        run = run_at(doors(), "shut", [7, 2])
        self.assertEqual([number for number, _ in run], [0, 1])
        self.assertEqual(run[-1], (1, (7, 2)))
        self.assertIs(is_run(doors(), run), True)
        self.assertIsNone(run_at(doors(), "shut", (1, 1)))
        self.assertEqual(run_at(doors(), "shut", (0, 7)), [])

    def test_equal_times_have_one_run(self):
        for place, time in (("shut", (13, 4)), ("open", (9, 1))):
            run = run_at(doors(), place, time)
            for by in (1, 2, 12):
                self.assertEqual(run_at(doors(), place, [time[0] * by, time[1] * by]), run)

    def test_times_that_are_hard_to_meet(self):
        # Each round takes between 3 and 4: so 40/3 is met by four rounds, 25/2 by four, 9 by none.
        watcher = Watcher(["x"], {"p": {}}, [("p", "a", [("x", "above", 3), ("x", "below", 4)], ["x"], "p")], [])
        for time, many in (((40, 3), 4), ((25, 2), 4), ((9, 1), None), ((12, 1), None), ((121, 10), 4), ((10, 1), 3)):
            run = run_at(watcher, "p", time)
            self.assertEqual(None if run is None else len(run), many)
            if run is not None:
                self.assertEqual((is_run(watcher, run), run[-1][1]), (True, time))

    def test_bad_times(self):
        for thing in strange_objects() + [(-1, 3), (1, 0), 2]:
            if repr(thing) in ("(0, 1)", "[1, 2]"):
                continue
            error = error_of(lambda: run_at(doors(), "open", thing))
            self.assertIsInstance(error, BadTime)
            self.assertIs(error.thing, thing)


class StuckTest(unittest.TestCase):
    def test_the_example(self):
        self.assertIsNone(stuck(doors()))
        self.assertIs(is_stuck(doors(), [(0, (0, 1))]), False)
        self.assertIs(is_stuck(never_doors(), [(0, (0, 1))]), True)
        self.assertIs(is_stuck(never_doors(), []), False)
        run = stuck(never_doors())
        self.assertEqual([number for number, _ in run], [0])
        self.assertIs(is_stuck(never_doors(), run), True)

    def test_a_place_without_arrows_out(self):
        watcher = Watcher(["x"], {"p": {}, "q": {}}, [("p", "a", [("x", "above", 1)], [], "q")], [])
        self.assertIs(is_stuck(watcher, []), False)
        self.assertIs(is_stuck(watcher, [(0, (3, 2))]), True)
        self.assertEqual(len(stuck(watcher)), 1)
        self.assertEqual(stuck(Watcher([], {"p": {}}, [], [])), [])

    def test_late_for_a_cut(self):
        watcher = Watcher(["x"], {"p": {}}, [("p", "a", [], ["x"], "p"), ("p", "b", [("x", "upto", 2)], [], "p")], [])
        self.assertIsNone(stuck(watcher))
        watcher = Watcher(["x"], {"p": {}}, [("p", "b", [("x", "upto", 2)], [], "p")], [])
        self.assertIsNone(stuck(watcher))
        watcher = Watcher(["x", "y"], {"p": {}, "q": {}}, [("p", "a", [], ["y"], "q"),
                                                           ("q", "b", [("x", "upto", 2), ("y", "above", 1)], [], "q")], [])
        self.assertIs(is_stuck(watcher, [(0, (1, 2))]), False)
        self.assertIs(is_stuck(watcher, [(0, (1, 1))]), True)
        run = stuck(watcher)
        self.assertEqual(len(run), 1)
        self.assertGreaterEqual(fraction(run[0][1]), 1)

    def test_an_arrow_that_leads_to_what_cannot_be_held(self):
        for bound, is_free in ((("below", 0), False), (("upto", 0), True)):
            watcher = Watcher(["x"], {"p": {}, "q": {"x": bound}}, [("p", "a", [], ["x"], "q"), ("q", "b", [], [], "q")], [])
            self.assertIs(is_stuck(watcher, []), not is_free)
            watcher = Watcher(["x"], {"p": {}, "q": {"x": bound}}, [("p", "a", [], [], "q"), ("q", "b", [], [], "q")], [])
            self.assertIs(is_stuck(watcher, []), not is_free)

    def test_without_a_run(self):
        self.assertIsNone(stuck(Watcher(["x"], {"p": {"x": ("below", 0)}}, [], [])))

    def test_bad_runs(self):
        for thing in strange_objects() + [[(1, (0, 1))]]:
            if thing in ([], ()):
                continue
            error = error_of(lambda: is_stuck(doors(), thing))
            self.assertEqual(error.__class__.__name__, "BadRun")
            self.assertIs(error.thing, thing)

    def test_just_if_its_worths_are_in_no_table_of_earlier(self):
        rolls = random.Random(33)
        found = {True: 0, False: 0}
        for _ in range(200):
            watcher = random_watcher(rolls, places=3, arrows=4, cuts=2, unseen=0.3)
            run, now = [], Fraction(0)
            for _ in range(rolls.randint(0, 3)):
                now += rolls.choice([0, Fraction(1, 2), 1])
                more = [run + [(number, pair_of(now))] for number in range(4)]
                run = ([one for one in more if is_run(watcher, one)] or [run])[0]
            if not is_run(watcher, run):
                continue
            place, behind = ended(watcher, run), worths(watcher, run)
            tables = []
            for source, _, cuts, begun, to in watcher.arrows():
                limits = [cut for cut in limit_cuts(watcher, to) if cut[0] not in begun]
                never = any(cut[1:] == ("below", 0) for cut in limit_cuts(watcher, to) if cut[0] in begun)
                table = cut_by(at_zero(watcher.clocks()), limit_cuts(watcher, source) + list(cuts) + limits)
                if source == place and table is not None and not never:
                    tables.append(earlier(table))
            is_held = not any(is_point(table, behind) for table in tables)
            found[is_held] += 1
            self.assertIs(is_stuck(watcher, run), is_held)
        self.assertGreater(min(found.values()), 20)


class NotByTest(unittest.TestCase):
    def test_a_paper(self):
        watcher = to_q([("above", 2)])
        paper = lots_with_ages(watcher, 2)
        self.assertIs(shows_not_by(watcher, "q", 2, paper), True)
        self.assertIs(shows_not_by(watcher, "q", 2, tuple(list(lot) for lot in paper)), True)
        self.assertIs(shows_not_by(watcher, "q", 3, paper), False)
        self.assertIs(shows_not_by(watcher, "q", 3, lots_with_ages(watcher, 3)), False)
        self.assertIs(shows_not_by(watcher, "p", 0, paper), False)
        closed_only = [(place, table) for place, table in paper if place == "p"]
        self.assertIs(shows_not_by(watcher, "q", 2, closed_only), False)

    def test_just_at_the_number(self):
        watcher = to_q([("from", 2)])
        self.assertIs(shows_not_by(watcher, "q", 1, lots_with_ages(watcher, 1)), True)
        self.assertIs(shows_not_by(watcher, "q", 2, lots_with_ages(watcher, 2)), False)
        late = [("p", at_zero(["x", "age"])), ("q", Table(["x", "age"], {("", "age"): ("below", -1)}))]
        self.assertIs(shows_not_by(watcher, "q", 1, late), False)
        together = Table(["x", "age"], {("x", "age"): ("upto", 0), ("age", "x"): ("upto", 0)})
        self.assertIs(shows_not_by(watcher, "q", 1, [("p", together), late[1]]), True)
        self.assertIs(shows_not_by(watcher, "q", 2, [("p", together), late[1]]), False)

    def test_a_lot_without_a_point_hinders_nothing(self):
        watcher = to_q([("above", 2)])
        paper = lots_with_ages(watcher, 2)
        for bounds in ({("age", ""): ("below", 0)}, {("x", ""): ("upto", -1)}):
            self.assertIs(shows_not_by(watcher, "q", 2, paper + [("q", Table(["x", "age"], bounds))]), True)
        young = Table(["x", "age"], {("age", ""): ("upto", 2)})
        self.assertIs(shows_not_by(watcher, "q", 2, paper + [("q", young)]), False)

    def test_the_age_stands_behind_the_clocks(self):
        watcher = to_q([("above", 2)])
        paper = lots_with_ages(watcher, 2)
        for names in (["x"], ["age", "x"], ["x", "ages"], ["x", "y", "age"], ["age"], []):
            self.assertIs(shows_not_by(watcher, "q", 2, paper + [("p", at_zero(names))]), False)

    def test_any_objects(self):
        watcher = to_q([("above", 2)])
        for thing in strange_objects():
            self.assertIs(shows_not_by(watcher, "q", 2, thing), False)
            self.assertIs(shows_not_by(watcher, "q", 2, lots_with_ages(watcher, 2) + [thing]), False)

    def test_without_a_first_lot_and_without_clocks(self):
        watcher = Watcher(["x"], {"p": {"x": ("below", 0)}, "q": {}}, [("p", "a", [], ["x"], "q")], [])
        self.assertIs(shows_not_by(watcher, "p", 5, []), True)
        plain = Watcher([], {"p": {}, "q": {}, "r": {}}, [("p", "a", [], [], "q")], [])
        ages = at_zero(["age"])
        self.assertIs(shows_not_by(plain, "r", 5, [("p", ages), ("q", ages)]), True)
        self.assertIs(shows_not_by(plain, "q", 5, [("p", ages), ("q", ages)]), False)

    def test_many_papers(self):
        rolls = random.Random(34)
        told = {True: 0, False: 0}
        for _ in range(60):
            watcher = random_watcher(rolls, clocks=rolls.choice([1, 1, 2]), places=3, arrows=5, cuts=2, most=2, unseen=0.3)
            n = rolls.randint(0, 3)
            paper = lots_with_ages(watcher, n)
            for place in watcher.places():
                is_never = times(watcher, place, n) == []
                self.assertIs(shows_not_by(watcher, place, n, paper), is_never)
                told[is_never] += 1
                bent = bent_lots(rolls, paper)
                is_well = is_paper_not_by(watcher, place, n, bent)
                self.assertIs(shows_not_by(watcher, place, n, bent), is_well)
        self.assertGreater(min(told.values()), 30)


class ManyTest(unittest.TestCase):
    def test_all_regions_tried(self):
        rolls = random.Random(31)
        found = {}
        for _ in range(150):
            watcher = random_watcher(rolls, clocks=rolls.choice([0, 1, 2, 2]), places=3, arrows=rolls.randint(2, 7), cuts=2,
                                     most=3, unseen=0.3, limits=rolls.choice([0, 0.4]))
            most = rolls.randint(2, 5)
            fewest = {place: {} for place in watcher.places()}
            reckoned = Reckoned(watcher, most)
            for many, stands in enumerate(reckoned.entries()):
                for place, region in stands:
                    fewest[place].setdefault(reckoned.regions.edge(region, "age"), many)
            for place in watcher.places():
                self.check_times(rolls, watcher, place, most, fewest[place])
                found[len(times(watcher, place, most))] = True
            self.check_stuck(watcher)
        self.assertTrue({0, 1, 2} <= set(found))

    def check_times(self, rolls, watcher, place, most, fewest):
        stretches = times(watcher, place, most)
        self.assertEqual(stretches, stretches_of_edges(fewest))
        first = earliest(watcher, place)
        if stretches:
            self.assertEqual(first, stretches[0][0])
        else:
            self.assertIs(first is None, not comes(watcher, place))
            self.assertTrue(first is None or first[1] >= most)
        for _ in range(3):
            time = Fraction(rolls.randint(0, 6 * most), 6)
            run = run_at(watcher, place, pair_of(time))
            edge = 2 * (time.numerator // time.denominator) + (0 if time.denominator == 1 else 1)
            self.assertEqual(None if run is None else len(run), fewest.get(edge))
            if run is not None:
                self.assertEqual(stands_behind(watcher, exact_run(run))[0], place)
                self.assertEqual(fraction(run[-1][1]) if run else 0, time)

    def check_stuck(self, watcher):
        reckoned = Reckoned(watcher)
        held = [many for many, stands in enumerate(reckoned.entries())
                if any(not reckoned.can_go(stand) for stand in stands)]
        run = stuck(watcher)
        self.assertEqual(None if run is None else len(run), held[0] if held else None)
        if run is not None:
            self.assertIs(is_stuck(watcher, run), True)
            self.assertEqual(run, stuck(watcher))

    def test_times_up_to_a_greater_number_cut(self):
        rolls = random.Random(32)
        for _ in range(60):
            watcher = random_watcher(rolls, clocks=2, places=3, arrows=6, cuts=2, most=3)
            for place in watcher.places():
                whole = times(watcher, place, 8)
                for most in range(8):
                    cut = [pair for pair in whole if pair[0][1] < most or pair[0] == ("from", most)]
                    if cut and (cut[-1][1][1] > most or (cut[-1][1][1] == most and cut[-1][1][0] == "upto")):
                        cut[-1] = (cut[-1][0], ("upto", most))
                    self.assertEqual(times(watcher, place, most), cut)


class SoonTest(unittest.TestCase):
    def test_watchers_as_large_as_can_be(self):
        rolls = random.Random(35)
        for _ in range(40):
            watcher = random_watcher(rolls, clocks=3, places=6, arrows=12, cuts=rolls.randint(1, 4), most=9, limits=0.2)
            place = watcher.places()[-1]
            for work in (lambda: times(watcher, place, 20), lambda: earliest(watcher, place), lambda: stuck(watcher),
                         lambda: run_at(watcher, place, (481, 12)), lambda: run_at(watcher, place, (7, 2))):
                begin = clock_time.process_time()
                work()
                self.assertLess(clock_time.process_time() - begin, 1)

    def test_clocks_that_go_round_each_by_its_own(self):
        clocks = ["x", "y", "z"]
        for lengths in ([(3, 4), (5, 7), (7, 9)], [(7, 7), (8, 8), (9, 9)], [(1, 2), (2, 3), (8, 9)]):
            rounds = [("p", "a", [(clock, "from", low), (clock, "upto", high)], [clock], "p")
                      for clock, (low, high) in zip(clocks, lengths)]
            meet = [(clock, "upto", 0) for clock in clocks] + [("x", "above", 0)]
            watcher = Watcher(clocks, {"p": {}, "q": {}}, rounds + [("p", "b", meet, [], "q")], [])
            for work in (lambda: times(watcher, "p", 20), lambda: times(watcher, "q", 20), lambda: earliest(watcher, "q"),
                         lambda: stuck(watcher), lambda: run_at(watcher, "p", (79, 2))):
                begin = clock_time.process_time()
                work()
                self.assertLess(clock_time.process_time() - begin, 1)

    def test_late_times_at_which_unlike_rounds_meet(self):
        clocks = ["x", "y", "z"]
        for lengths in ([(2, 2), (6, 9), (2, 8)], [(0, 8), (2, 9), (1, 6)]):
            rounds = [("p", "a", [(clock, "from", low), (clock, "upto", high)], [clock], "p")
                      for clock, (low, high) in zip(clocks, lengths)]
            meet = [("x", "upto", 0), ("y", "upto", 0), ("z", "above", 5)]
            never = [("x", "above", 0), ("x", "below", 0)]
            for limit in ({}, {clock: ("upto", 9) for clock in clocks}):
                watcher = Watcher(clocks, {"p": limit, "q": {}, "r": {}},
                                  rounds + [("p", "b", meet, [], "q"), ("p", "c", never, [], "r")], [])
                begin = clock_time.process_time()
                self.assertEqual(run_at(watcher, "q", (40, 1))[-1], (3, (40, 1)))
                self.assertIs(run_at(watcher, "q", (481, 12)) is None, lengths[0] == (2, 2))
                self.assertIsNone(run_at(watcher, "r", (40, 1)))
                self.assertEqual(times(watcher, "r", 20), [])
                self.assertLess(clock_time.process_time() - begin, 2)


if __name__ == "__main__":
    unittest.main()
