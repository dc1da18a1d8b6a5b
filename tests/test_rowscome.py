"""[36] to [43]."""

import random
import time
import unittest

from rowsintime.errors import BadRow
from rowsintime.rows import Rows, parting
from rowsintime.rowscome import (
    begun_rows, look_through, row_comes, rows_of, run_for, shows_no_row, whole_rows, whole_run_for)
from rowsintime.runs import ended, heard, is_run
from rowsintime.tables import Table
from rowsintime.watchers import Watcher
from tests.helper import (
    Reckoned, all_rows, bent_lots, error_of, exact_run, fault, first_table, is_within_one, keeps_cut, keeps_limit,
    led_to, random_watcher, stands_behind, strange_objects)
from tests.test_lots import at_zero, doors


def between(word="below", number=1):
    """The example of [43]."""
    return Watcher(["x"], {"p": {}, "q": {"x": (word, number)}, "r": {}},
                   [("p", "a", [], ["x"], "q"), ("q", "b", [("x", "above", 0)], [], "r")], ["r"])


def changed(watcher, limits=None, arrows=None, ends=None, clocks=None):
    told = {place: watcher.limit(place) for place in watcher.places()}
    return Watcher(watcher.clocks() if clocks is None else clocks, told if limits is None else limits,
                   watcher.arrows() if arrows is None else arrows, watcher.ends() if ends is None else ends)


def doubled(watcher):
    """The watcher with all numbers doubled."""
    limits = {place: {clock: (word, 2 * number) for clock, (word, number) in watcher.limit(place).items()}
              for place in watcher.places()}
    arrows = [(place, signal, [(clock, word, 2 * number) for clock, word, number in cuts], begun, to)
              for place, signal, cuts, begun, to in watcher.arrows()]
    return changed(watcher, limits=limits, arrows=arrows)


class WholeTimes:
    """All that can come of a watcher at integers alone, clocks being looked at up to a cap."""

    def __init__(self, watcher, cap=9):
        self.watcher, self.cap = watcher, cap

    def holds(self, place, worths):
        return keeps_limit(self.watcher, place, dict(worths))

    def first(self):
        stand = (self.watcher.places()[0], tuple((clock, 0) for clock in self.watcher.clocks()))
        return {stand} if self.holds(*stand) else set()

    def waited(self, stands):
        found = set()
        for place, worths in stands:
            while (place, worths) not in found and self.holds(place, worths):
                found.add((place, worths))
                worths = tuple((clock, min(worth + 1, self.cap)) for clock, worth in worths)
        return found

    def heard(self, stands, signal):
        found = set()
        for place, worths in stands:
            for source, heard_signal, cuts, begun, to in self.watcher.arrows():
                if source == place and heard_signal == signal and all(keeps_cut(cut, dict(worths)) for cut in cuts):
                    behind = tuple((clock, 0 if clock in begun else worth) for clock, worth in worths)
                    if self.holds(to, behind):
                        found.add((to, behind))
        return found

    def by_row(self, row):
        stands = self.waited(self.first())
        for signal in row:
            stands = self.waited(self.heard(stands, signal))
        return stands


def is_paper(watcher, row, lists):
    """What [39] asks of a look-through, looked at by tables."""
    if len(lists) != len(row) + 1 or any(place in watcher.ends() for place, _ in lists[-1]):
        return False
    tables = [{place: [table for at, table in lots if at == place] for place in watcher.places()} for lots in lists]
    if not is_within_one(first_table(watcher), tables[0][watcher.places()[0]]):
        return False
    for at, signal in enumerate(row):
        for arrow in watcher.arrows():
            for table in tables[at][arrow[0]]:
                if arrow[1] == signal and not is_within_one(led_to(watcher, table, arrow), tables[at + 1][arrow[4]]):
                    return False
    return True


class ExampleTest(unittest.TestCase):
    def test_the_example(self):
        self.assertEqual(rows_of(between()).listed(5), [("a", "b")])
        self.assertEqual(rows_of(between()).many(), 1)
        self.assertEqual(whole_rows(between()).many(), 0)
        self.assertEqual(whole_rows(between(number=2)).listed(5), [("a", "b")])
        self.assertEqual(begun_rows(between()).listed(5), [(), ("a",), ("a", "b")])
        self.assertIs(row_comes(between(), ("a", "b")), True)
        self.assertIs(is_run(between(), run_for(between(), ["a", "b"])), True)
        self.assertIsNone(whole_run_for(between(), ["a", "b"]))
        run = whole_run_for(between(number=2), ["a", "b"])
        self.assertEqual([time[1] for _, time in run], [1, 1])
        self.assertIs(is_run(between(number=2), run), True)

    def test_doors(self):
        rows = rows_of(doors())
        self.assertEqual(rows, Rows(["bell", "door"], [(0, "door", 1), (1, "bell", 0)], [0], [0]))
        self.assertEqual(begun_rows(doors()), rows.begun())
        self.assertEqual(whole_rows(doors()), rows)

    def test_rows_that_begin_without_an_end(self):
        watcher = changed(doors(), ends=["open"], arrows=doors().arrows()[:1] + [("open", "lamp", [], [], "dark")],
                          limits={"shut": {}, "open": {"x": ("upto", 3)}, "dark": {}})
        self.assertEqual(rows_of(watcher).listed(4), [("door",)])
        self.assertEqual(begun_rows(watcher).listed(4), [(), ("door",), ("door", "lamp")])
        self.assertEqual(rows_of(watcher).begun().listed(4), [(), ("door",)])
        self.assertEqual(rows_of(changed(watcher, ends=[])).many(), 0)

    def test_a_first_place_that_cannot_be_held(self):
        watcher = Watcher(["x"], {"p": {"x": ("below", 0)}}, [("p", "a", [], ["x"], "p")], ["p"])
        for work in (rows_of, begun_rows, whole_rows):
            self.assertEqual(work(watcher), Rows(["a"], [], [], []))
        for row in ([], ["a"]):
            self.assertIs(row_comes(watcher, row), False)
            self.assertIsNone(run_for(watcher, row))
            self.assertIsNone(whole_run_for(watcher, row))
            paper = look_through(watcher, row)
            self.assertEqual(paper, [[] for _ in range(len(row) + 1)])
            self.assertIs(shows_no_row(watcher, row, paper), True)

    def test_the_row_without_signals(self):
        watcher = Watcher(["x"], {"p": {"x": ("upto", 0)}, "q": {}}, [("p", "a", [], ["x"], "q")], ["p"])
        self.assertEqual(rows_of(watcher).listed(3), [()])
        self.assertEqual(begun_rows(watcher).listed(3), [(), ("a",)])
        self.assertEqual(run_for(watcher, ()), [])
        self.assertEqual(whole_run_for(watcher, ()), [])
        self.assertIsNone(look_through(watcher, ()))

    def test_without_signals_and_clocks(self):
        watcher = Watcher([], {"p": {}}, [], ["p"])
        self.assertEqual(rows_of(watcher), Rows([], [], [0], [0]))
        self.assertEqual(rows_of(watcher).signals(), [])

    def test_unlike_rows_lead_on_by_their_own(self):
        # What b leads to lies within what a leads to, but only a and b themselves, not the place, tell what has come.
        watcher = Watcher(["x"], {"p": {}, "q": {}, "r": {}}, [
            ("p", "a", [], ["x"], "q"), ("p", "b", [("x", "from", 3)], [], "q"), ("q", "c", [("x", "upto", 2)], [], "r")], ["r"])
        self.assertEqual(rows_of(watcher).listed(4), [("a", "c")])
        self.assertEqual(begun_rows(watcher).listed(4), [(), ("a",), ("b",), ("a", "c")])

    def test_endless_rows_though_clocks_grow(self):
        watcher = Watcher(["x", "y"], {"p": {"x": ("upto", 1)}}, [
            ("p", "a", [("x", "from", 1)], ["x"], "p"), ("p", "b", [("y", "above", 2)], [], "p")], ["p"])
        rows = rows_of(watcher)
        self.assertIsNone(rows.many())
        for row in all_rows("ab", 5):
            # Each a takes 1: so y can be beyond 2 behind two of them.
            self.assertIs(row in rows, "b" not in row or row.index("b") >= 2)

    def test_time_that_stands_still(self):
        watcher = Watcher(["x"], {"p": {"x": ("upto", 0)}}, [("p", "a", [], [], "p"), ("p", "b", [("x", "above", 0)], [], "p"),
                                                            ("p", "c", [], ["x"], "p")], ["p"])
        self.assertEqual(rows_of(watcher), Rows(["a", "b", "c"], [(0, "a", 0), (0, "c", 0)], [0], [0]))
        self.assertEqual(whole_rows(watcher), rows_of(watcher))


class ErrorTest(unittest.TestCase):
    def test_unseen_ahead_of_all(self):
        watcher = Watcher([], {"p": {}}, [("p", "a", [], [], "p"), ("p", None, [], [], "p"), ("p", None, [], [], "p")], ["p"])
        for work in (rows_of, begun_rows, whole_rows):
            self.assertEqual(fault(lambda: work(watcher)), ("Unseen", 1))
        for work in (run_for, row_comes, look_through, whole_run_for):
            self.assertEqual(fault(lambda: work(watcher, None)), ("Unseen", 1))
        self.assertEqual(fault(lambda: shows_no_row(watcher, None, None)), ("Unseen", 1))

    def test_bad_rows(self):
        def shows(watcher, row):
            return shows_no_row(watcher, row, [])
        for work in (run_for, row_comes, look_through, whole_run_for, shows):
            for thing in strange_objects():
                good = thing in ([], ()) or (isinstance(thing, (list, tuple)) and all(one in ("a", "b") for one in thing))
                self.assertEqual(fault(lambda: work(between(), thing)) is None, good)
                if not isinstance(thing, (list, tuple)):
                    self.assertEqual(fault(lambda: work(between(), thing)), ("BadRow", 0))
                expected = None if thing in ("a", "b") else ("BadRow", 1)
                self.assertEqual(fault(lambda: work(between(), ["b", thing, "b"])), expected)
            self.assertEqual(fault(lambda: work(between(), ("a", "b", "c", 3))), ("BadRow", 2))
            self.assertIsInstance(error_of(lambda: work(between(), ["x"])), BadRow)

    def test_by_name(self):
        self.assertEqual(rows_of(watcher=between()).many(), 1)
        self.assertEqual(begun_rows(watcher=between()).many(), 3)
        self.assertEqual(whole_rows(watcher=between()).many(), 0)
        self.assertEqual(len(run_for(row=["a", "b"], watcher=between())), 2)
        self.assertIsNone(whole_run_for(row=["a", "b"], watcher=between()))
        self.assertIs(row_comes(row=["a"], watcher=between()), False)
        paper = look_through(row=["a"], watcher=between())
        self.assertIs(shows_no_row(thing=paper, row=["a"], watcher=between()), True)


class LookThroughTest(unittest.TestCase):
    def test_a_told_one(self):
        watcher = between("upto", 0)
        paper = look_through(watcher, ["a", "b"])
        self.assertEqual(len(paper), 3)
        self.assertEqual([[place for place, _ in lots] for lots in paper], [["p"], ["q"], []])
        for lots in paper:
            for place, table in lots:
                self.assertIsInstance(table, Table)
                self.assertEqual(table.names(), ["x"])
        self.assertIs(shows_no_row(watcher, ("a", "b"), paper), True)
        self.assertIs(shows_no_row(watcher, ("a", "b"), tuple(tuple(list(lot) for lot in lots) for lots in paper)), True)
        self.assertIs(shows_no_row(between(), ("a", "b"), paper), False)
        self.assertIs(shows_no_row(watcher, ("a",), paper), False)
        self.assertIs(shows_no_row(watcher, ("a", "b", "b"), paper), False)

    def test_bent_ones(self):
        watcher = between("upto", 0)
        p, q = at_zero(["x"]), Table(["x"], {("x", ""): ("upto", 0)})
        empty = Table(["x"], {("x", ""): ("below", 0)})
        row = ["a", "b"]
        for paper in ([[("p", p)], [("q", q)], []], [[("p", p), ("q", q)], [("q", q), ("p", empty), ("r", p)], [("q", p)]],
                      [[("p", Table(["x"], {}))], [("q", empty), ("q", Table(["x"], {("x", ""): ("upto", 0)}))], []]):
            self.assertIs(shows_no_row(watcher, row, paper), True)
        for paper in ([[], [("q", q)], []], [[("p", q)], [("q", q)], []], [[("p", p)], [], []], [[("p", p)], [("q", empty)], []],
                      [[("p", p)], [("q", q)], [("r", empty)]], [[("p", p)], [("q", q)], [("r", p)]],
                      [[("q", p)], [("q", q)], []], [[("p", p)], [("q", q)]], [[("p", p)], [("q", q)], [], []], []):
            self.assertIs(shows_no_row(watcher, row, paper), False)

    def test_greater_tables_as_far_as_all_holds(self):
        # With all worths of x the limit of q still lets no b go.
        watcher = between("upto", 0)
        whole = at_zero(["x"])
        self.assertIs(shows_no_row(watcher, ["a", "b"], [[("p", whole)], [("q", whole)], []]), True)
        # Here the limit of r does not let it.
        loose = Watcher(["x"], {"p": {}, "q": {}, "r": {"x": ("upto", 0)}},
                        [("p", "a", [], ["x"], "q"), ("q", "b", [("x", "above", 0)], [], "r")], ["r"])
        self.assertIs(shows_no_row(loose, ["a", "b"], [[("p", whole)], [("q", whole)], []]), True)
        self.assertIs(shows_no_row(loose, ["a"], [[("p", whole)], [("q", Table(["x"], {("x", ""): ("upto", 7)}))]]), False)

    def test_one_lot_has_to_hold_all(self):
        watcher = Watcher(["x"], {"p": {}, "q": {}}, [("p", "a", [], [], "q")], ["p"])
        low, high = Table(["x"], {("x", ""): ("upto", 2)}), Table(["x"], {("", "x"): ("below", -2)})
        whole = at_zero(["x"])
        self.assertIs(shows_no_row(watcher, ["a"], [[("p", whole)], [("q", low), ("q", high)]]), False)
        self.assertIs(shows_no_row(watcher, ["a"], [[("p", low), ("p", high)], [("q", whole)]]), False)
        self.assertIs(shows_no_row(watcher, ["a"], [[("p", whole)], [("q", low), ("q", whole)]]), True)

    def test_nothing_lies_beyond_here(self):
        watcher = Watcher(["x"], {"p": {"x": ("upto", 1)}, "q": {}}, [("p", "a", [("x", "from", 1)], [], "q")], [])
        exact = [[("p", Table(["x"], {("x", ""): ("upto", 1)}))], [("q", Table(["x"], {("", "x"): ("upto", -1)}))]]
        self.assertIs(shows_no_row(watcher, ["a"], exact), True)
        watcher = Watcher(["x", "y"], {"p": {"x": ("upto", 1)}, "q": {}}, [("p", "a", [("x", "from", 1)], ["x"], "p")], [])
        row, lists = ["a"] * 3, []
        for number in range(4):
            bounds = {("x", ""): ("upto", 1), ("y", "x"): ("upto", number), ("x", "y"): ("upto", -number)}
            lists.append([("p", Table(["x", "y"], bounds))])
        self.assertIs(shows_no_row(watcher, row, lists), True)

    def test_worths_below_zero_count_for_nothing(self):
        watcher = Watcher(["x"], {"p": {}, "q": {}}, [("p", "a", [("x", "below", 0)], [], "q")], ["q"])
        self.assertIs(shows_no_row(watcher, ["a"], [[("p", Table(["x"], {}))], []]), True)

    def test_any_objects(self):
        watcher = between("upto", 0)
        paper = look_through(watcher, ["a"])
        for thing in strange_objects():
            self.assertIs(shows_no_row(watcher, ["a"], thing), False)
            self.assertIs(shows_no_row(watcher, ["a"], [paper[0], thing]), False)
            self.assertIs(shows_no_row(watcher, ["a"], [paper[0] + [thing], paper[1]]), False)
            self.assertIs(shows_no_row(watcher, ["a"], [paper[0] + [(thing, at_zero(["x"]))], paper[1]]), False)
            self.assertIs(shows_no_row(watcher, ["a"], [paper[0], paper[1] + [("q", thing)]]), False)
        for names in ([], ["y"], ["x", "y"]):
            self.assertIs(shows_no_row(watcher, ["a"], [paper[0] + [("q", at_zero(names))], paper[1]]), False)

    def test_nothing_is_changed(self):
        paper = [[list(lot) for lot in lots] for lots in look_through(between(), ["a"])]
        again = [[list(lot) for lot in lots] for lots in paper]
        row = ["a"]
        shows_no_row(between(), row, paper)
        self.assertEqual((paper, row), (again, ["a"]))


class SetsTest(unittest.TestCase):
    def watchers(self, seed, many):
        rolls = random.Random(seed)
        for _ in range(many):
            yield rolls, random_watcher(rolls, clocks=rolls.choice([1, 2]), places=3, arrows=rolls.randint(2, 6), cuts=2, most=3,
                                        limits=rolls.choice([0, 0.3]))

    def test_more_ends_fewer_arrows_tighter_cuts(self):
        for rolls, watcher in self.watchers(42, 80):
            rows = rows_of(watcher)
            more = rows_of(changed(watcher, ends=watcher.places()))
            self.assertTrue(rows.is_within(more))
            self.assertEqual(more, begun_rows(watcher))
            arrows = watcher.arrows()
            at = rolls.randrange(len(arrows))
            place, signal, cuts, begun, to = arrows[at]
            cut = (watcher.clocks()[0], rolls.choice(["from", "above", "upto", "below"]), rolls.randint(0, 3))
            one_more = [(place, signal, cuts + (cut,), begun, to) if k == at else arrow for k, arrow in enumerate(arrows)]
            self.assertTrue(rows_of(changed(watcher, arrows=one_more)).is_within(rows))
            never = (place, signal, cuts + ((cut[0], "below", 0),), begun, to)
            without = [never if k == at else arrow for k, arrow in enumerate(arrows)]
            self.assertTrue(rows_of(changed(watcher, arrows=without)).is_within(rows))

    def test_a_clock_that_is_never_cut(self):
        for rolls, watcher in self.watchers(43, 50):
            arrows = [arrow[:3] + (arrow[3] + ("free",) if rolls.random() < 0.5 else arrow[3],) + arrow[4:]
                      for arrow in watcher.arrows()]
            other = changed(watcher, clocks=watcher.clocks() + ["free"], arrows=arrows)
            for work in (rows_of, begun_rows, whole_rows):
                self.assertIsNone(parting(work(watcher), work(other)))

    def test_all_numbers_doubled(self):
        more = 0
        for _, watcher in self.watchers(44, 250):
            self.assertEqual(rows_of(doubled(watcher)), rows_of(watcher))
            self.assertEqual(begun_rows(doubled(watcher)), begun_rows(watcher))
            self.assertTrue(whole_rows(watcher).is_within(whole_rows(doubled(watcher))))
            more += whole_rows(watcher) != whole_rows(doubled(watcher))
        self.assertGreater(more, 3)

    def test_whole_rows_where_nothing_is_told_with_below_or_above(self):
        for _, watcher in self.watchers(45, 80):
            words = {"from": "from", "above": "from", "upto": "upto", "below": "upto"}
            limits = {place: {clock: ("upto", number) for clock, (_, number) in watcher.limit(place).items()}
                      for place in watcher.places()}
            arrows = [(place, signal, [(clock, words[word], number) for clock, word, number in cuts], begun, to)
                      for place, signal, cuts, begun, to in watcher.arrows()]
            rounded = changed(watcher, limits=limits, arrows=arrows)
            self.assertEqual(whole_rows(rounded), rows_of(rounded))
            self.assertTrue(whole_rows(watcher).is_within(rows_of(watcher)))


class ManyTest(unittest.TestCase):
    def test_all_regions_tried(self):
        rolls = random.Random(36)
        found = {}
        for _ in range(250):
            watcher = random_watcher(rolls, clocks=rolls.choice([0, 1, 2, 2]), places=3, arrows=rolls.randint(2, 7), cuts=2,
                                     most=2, limits=rolls.choice([0, 0.4]))
            reckoned, whole = Reckoned(watcher), WholeTimes(watcher)
            sets = (rows_of(watcher), begun_rows(watcher), whole_rows(watcher))
            for rows in sets:
                self.assertEqual(rows.signals(), watcher.signals())
            for row in all_rows(watcher.signals(), 4):
                stands = reckoned.by_row(row)
                is_come = any(place in watcher.ends() for place, _ in stands)
                is_whole = any(place in watcher.ends() for place, _ in whole.by_row(row))
                self.assertEqual([row in rows for rows in sets], [is_come, bool(stands), is_whole])
                found[is_come, is_whole] = found.get((is_come, is_whole), 0) + 1
                if rolls.random() < 0.2:
                    self.check_row(watcher, row, is_come, is_whole)
        self.assertGreater(min(found.values()), 5)
        self.assertEqual(len(found), 3)

    def check_row(self, watcher, row, is_come, is_whole):
        self.assertIs(row_comes(watcher, list(row)), is_come)
        run, paper, whole = run_for(watcher, row), look_through(watcher, row), whole_run_for(watcher, row)
        self.assertEqual((run is not None, paper is None, whole is not None), (is_come, is_come, is_whole))
        for told in (run, whole):
            if told is not None:
                self.assertIn(stands_behind(watcher, exact_run(told))[0], watcher.ends())
                self.assertIn(ended(watcher, told), watcher.ends())
                self.assertEqual(tuple(signal for signal, _ in heard(watcher, told)), row)
        if run is not None:
            self.assertEqual([(len(row) + 1) % time[1] for _, time in run], [0] * len(row))
            self.assertEqual(run, run_for(watcher, list(row)))
            self.assertIs(shows_no_row(watcher, row, [[(place, at_zero(watcher.clocks())) for place in watcher.places()
                                                      if place not in watcher.ends()]] * (len(row) + 1)), False)
        else:
            self.assertIs(shows_no_row(watcher, row, paper), True)
            self.assertTrue(is_paper(watcher, row, paper))
        if whole is not None:
            self.assertEqual([time[1] for _, time in whole], [1] * len(row))

    def test_papers_looked_through_by_tables(self):
        rolls = random.Random(39)
        told = {True: 0, False: 0}
        for _ in range(150):
            watcher = random_watcher(rolls, clocks=rolls.choice([1, 2]), places=3, arrows=6, cuts=2, most=3)
            row = [rolls.choice(watcher.signals()) for _ in range(rolls.randint(0, 3))]
            paper = look_through(watcher, row)
            if paper is None:
                continue
            for _ in range(3):
                bent = [list(lots) for lots in paper]
                at = rolls.randrange(len(bent))
                bent[at] = bent_lots(rolls, bent[at])
                is_well = is_paper(watcher, row, bent)
                told[is_well] += 1
                self.assertIs(shows_no_row(watcher, row, bent), is_well)
        self.assertGreater(min(told.values()), 40)


class SoonTest(unittest.TestCase):
    def test_watchers_as_large_as_can_be(self):
        rolls = random.Random(40)
        for _ in range(40):
            watcher = random_watcher(rolls, clocks=3, places=6, arrows=12, cuts=rolls.randint(2, 4), most=9, signals="abc",
                                     limits=0.3)
            row = [rolls.choice(watcher.signals()) for _ in range(12)]
            for work in (lambda: rows_of(watcher), lambda: begun_rows(watcher), lambda: whole_rows(watcher),
                         lambda: run_for(watcher, row), lambda: shows_no_row(watcher, row, look_through(watcher, row))):
                begin = time.process_time()
                work()
                self.assertLess(time.process_time() - begin, 1)

    def test_rows_of_twelve_signals(self):
        clocks = ["x", "y", "z"]
        arrows = [("p", "abc"[at], [(clock, "from", 2), (clock, "upto", 9)], [clock], "p") for at, clock in enumerate(clocks)]
        watcher = Watcher(clocks, {"p": {}, "q": {}}, arrows + [("p", "d", [("x", "above", 9)], [], "q")], ["q"])
        begin = time.process_time()
        row = ["a", "b", "c", "a", "b", "c", "a", "b", "c", "a", "b"]
        self.assertIs(is_run(watcher, run_for(watcher, row + ["d"])), True)
        self.assertIs(shows_no_row(watcher, row + ["c"], look_through(watcher, row + ["c"])), True)
        self.assertLess(time.process_time() - begin, 1)


if __name__ == "__main__":
    unittest.main()
