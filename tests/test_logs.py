"""[69] to [77], and the errors, the limits and the example of [78]."""

import random
import time
import unittest
from collections import Counter
from fractions import Fraction

from rowsintime.closing import closed, spread
from rowsintime.errors import ClockError
from rowsintime.logs import Log, least_lost, lost
from rowsintime.points import is_point, is_ring, point
from rowsintime.runs import ended, heard, is_run
from rowsintime.tables import Table
from rowsintime.watchers import Watcher
from tests.helper import (
    as_lists, error_of, exact_run, fault, fraction, keeps_limit, limit_cuts, looser, pair_of, random_watcher,
    stands_behind, strange_objects, tighter)
from tests.test_toldrows import as_told, bound_of, fewest, lower_told

NAMES = [letter for letter in "abcdefghijklmnopqrstuvwxyz"]


def lamps():
    """The watcher of the example of [78]."""
    return Watcher(["x"], {"calm": {}, "alarm": {}}, [
        ("calm", None, [("x", "from", 3)], ["x"], "alarm"), ("alarm", "lamp", [("x", "upto", 2)], [], "calm"),
        ("calm", "lamp", [], [], "calm")], [])


def candidates(watcher, entries):
    """All candidates, in order: ways whose signals are those heard."""
    signals = [signal for signal, _ in entries if signal is not None]
    level, found = [((), watcher.places()[0], 0)], []
    while level:
        found += [way for way, _, many in level if many == len(signals)]
        longer = []
        for way, place, many in level:
            for number, (source, signal, _, _, to) in enumerate(watcher.arrows()):
                if source != place or ("below", 0) in watcher.limit(to).values():
                    continue
                if signal is None or (many < len(signals) and signals[many] == signal):
                    longer.append((way + (number,), to, many + (signal is not None)))
        level = longer
    return found


def asked_of(watcher, way, names, ahead="", begun=None):
    """What a way asks of its times, told by names: pairs and bounds; and where its clocks were begun last."""
    begun, asked = dict(begun or {}), []
    for number, now in zip(way, names):
        place, _, cuts, clocks, to = watcher.arrows()[number]
        asked.append(bound_of(now, ahead, "from", 0))
        asked += [bound_of(now, begun.get(clock, ""), word, n) for clock, word, n in limit_cuts(watcher, place) + list(cuts)]
        asked += [bound_of(now, begun.get(clock, ""), word, n) for clock, word, n in limit_cuts(watcher, to)
                  if clock not in clocks]
        begun.update({clock: now for clock in clocks})
        ahead = now
    return asked, begun


def table_of(names, asked):
    bounds = {}
    for pair, bound in asked:
        bounds[pair] = tighter(bounds.get(pair), bound)
    return Table(names, bounds)


def place_behind(watcher, way):
    return watcher.arrows()[way[-1]][4] if way else watcher.places()[0]


def candidate_parts(watcher, entries, way):
    """The names of a candidate's times, its bounds by pairs, and where its clocks were begun last."""
    names = NAMES[:len(way)]
    asked, begun = asked_of(watcher, way, names)
    asked.append(bound_of("now", names[-1] if names else "", "from", 0))
    asked += [bound_of("now", begun.get(clock, ""), word, n) for clock, word, n in limit_cuts(watcher, place_behind(watcher, way))]
    heard_names = [name for name, number in zip(names, way) if watcher.arrows()[number][1] is not None]
    many = 0
    for at, (signal, told) in enumerate(entries):
        if signal is not None:
            if told is not None:
                asked += [bound_of(heard_names[many], "", word, told) for word in ("from", "upto")]
            many += 1
            continue
        if many:
            asked.append(bound_of(heard_names[many - 1], "", "upto", told))
        if many < len(heard_names):
            asked.append(bound_of(heard_names[many], "", "from", told))
        if at + 1 == len(entries):
            asked += [bound_of("now", "", word, told) for word in ("from", "upto")]
    return names + ["now"], asked, begun


def raw_table(watcher, entries, way):
    names, asked, _ = candidate_parts(watcher, entries, way)
    return table_of(names, asked)


def tables_by_hand(watcher, entries):
    """The closed tables of all paths, by paths in order."""
    if ("below", 0) in watcher.limit(watcher.places()[0]).values():
        return {}
    tables = {way: raw_table(watcher, entries, way) for way in candidates(watcher, entries)}
    return {way: closed(table) for way, table in tables.items() if point(table) is not None}


def gap_by_hand(parts):
    """The loosest bounds of what the other is more than the one, over triples of a table and two spots."""
    lows, highs = [], []
    for table, one, other in parts:
        if one == other:
            lows.append(("upto", 0))
            highs.append(("upto", 0))
        else:
            lows.append(table.bound(one, other))
            highs.append(table.bound(other, one))
    low, high = lows[0], highs[0]
    for bound in lows:
        low = looser(low, bound)
    for bound in highs:
        high = looser(high, bound)
    return (lower_told(low), high)


def is_log_run(watcher, entries, run):
    """Whether a run has times for the entries, and a now, as [70] tells."""
    steps = exact_run(run)
    stand = stands_behind(watcher, steps)
    if stand is None:
        return False
    times = [(watcher.arrows()[number][1], at) for number, at in steps if watcher.arrows()[number][1] is not None]
    signals = [signal for signal, _ in entries if signal is not None]
    if [signal for signal, _ in times] != signals:
        return False
    many, ahead = 0, Fraction(0)
    for signal, told in entries:
        if signal is None:
            at = Fraction(told)
        else:
            at = times[many][1]
            many += 1
        if at < ahead or (told is not None and at != told):
            return False
        ahead = at
    last = steps[-1][1] if steps else Fraction(0)
    now = max(last, ahead)
    if entries and entries[-1][0] is None and now != entries[-1][1]:
        return False
    place, worths = stand
    return keeps_limit(watcher, place, {clock: worth + now - last for clock, worth in worths.items()})


def unlooped(rolls, **told):
    """A watcher made up whose unseen arrows lead from earlier places to later ones."""
    watcher = random_watcher(rolls, **told)
    places, arrows = watcher.places(), []
    for source, signal, cuts, begun, to in watcher.arrows():
        if signal is None and places.index(source) >= places.index(to):
            signal = "a"
        arrows.append((source, signal, cuts, begun, to))
    return Watcher(watcher.clocks(), {place: watcher.limit(place) for place in places}, arrows, watcher.ends())


def random_entries(rolls, watcher, most=4):
    """Entries as some run of a watcher may leave them, or bent a little."""
    place, now, begun, entries = watcher.places()[0], Fraction(0), {}, []
    for _ in range(rolls.randint(0, most)):
        now += rolls.choice([0, 0, 1, 1, 2, Fraction(1, 2)])
        worths = {clock: now - begun.get(clock, 0) for clock in watcher.clocks()}
        open_ones = [arrow for arrow in watcher.arrows() if arrow[0] == place and keeps_limit(watcher, place, worths)
                     and all(keeps_limit(watcher, place, worths) for _ in arrow[2])]
        if open_ones and rolls.random() < 0.85:
            _, signal, _, clocks, place = rolls.choice(open_ones)
            begun.update({clock: now for clock in clocks})
            if signal is not None:
                is_told = now.denominator == 1 and rolls.random() < 0.6
                entries.append((signal, int(now) if is_told else None))
        if now.denominator == 1 and rolls.random() < 0.3:
            entries.append((None, int(now)))
    return entries


def random_log(rolls, most=4, **told):
    """A watcher, entries of which there is a log, and the closed tables of all paths."""
    while True:
        options = dict(clocks=rolls.randint(0, 2), places=3, arrows=6, cuts=1, most=3, limits=0.2, unseen=0.35)
        watcher = unlooped(rolls, **dict(options, **told))
        entries = random_entries(rolls, watcher, most)
        if len(candidates(watcher, entries)) > 40:
            continue
        tables = tables_by_hand(watcher, entries)
        if tables:
            return watcher, entries, tables


def bent_run(rolls, watcher, run):
    """A run with one time told otherwise, or an arrow left out, or put in."""
    run = list(run)
    kind = rolls.randrange(3)
    if run and kind == 0:
        at = rolls.randrange(len(run))
        run[at] = (run[at][0], pair_of(max(0, fraction(run[at][1]) + rolls.choice([-1, Fraction(-1, 2), Fraction(1, 2), 1]))))
    elif run and kind == 1:
        run.pop(rolls.randrange(len(run)))
    elif watcher.arrows():
        at = rolls.randint(0, len(run))
        when = run[at - 1][1] if at else (0, 1)
        run.insert(at, (rolls.randrange(len(watcher.arrows())), when))
    return run


class ExampleTest(unittest.TestCase):
    def test_the_example(self):
        log = Log(lamps(), [("lamp", 4), (None, 4)])
        self.assertEqual(log.paths(), [(2,), (0, 1), (2, 0)])
        self.assertEqual((log.at("alarm"), log.went(0)), ("open", "open"))
        self.assertTrue(is_ring(raw_table(lamps(), log.entries(), (0, 1, 0)), log.barred((0, 1, 0))))
        self.assertEqual(log.next_ones(), {"lamp": (("from", 4), None)})
        other = Log(lamps(), [("lamp", 2), (None, 2)])
        self.assertEqual((other.paths(), other.at("calm"), other.went(0)), ([(2,)], "sure", "never"))

    def test_by_name_and_as_lists(self):
        log = Log(watcher=as_told(lamps()), entries=(["lamp", 4], [None, 4]))
        self.assertEqual(log, Log(lamps(), [("lamp", 4), (None, 4)]))
        self.assertEqual(log.table(path=[2]), log.table((2,)))
        self.assertIsNone(log.barred(thing=[0, 1]))
        self.assertEqual((log.at(place="alarm"), log.went(arrow=0), log.went_ahead(one=2, other=0)), ("open", "open", "sure"))
        self.assertEqual(len(log.shown(place="alarm")), 2)
        self.assertEqual((log.worth(clock="x"), log.time_of(index=0)), ((("from", 0), ("upto", 4)), (("from", 4), ("upto", 4))))
        self.assertEqual(log.time_gone(arrow=1), (("from", 4), ("upto", 4)))
        self.assertIs(log.is_run(thing=[[2, [8, 2]]]), True)
        self.assertEqual(log.more(signal="lamp", time=5).entries(), [("lamp", 4), (None, 4), ("lamp", 5)])
        self.assertEqual(lost(log=log).entries(), [("lamp", None)])
        self.assertEqual(least_lost(watcher=lamps(), entries=[["lamp", 4]]), [()])


class PathsTest(unittest.TestCase):
    def test_paths_tables_and_rings_against_bounds_by_hand(self):
        rolls = random.Random(1)
        seen = Counter()
        for _ in range(160):
            watcher = unlooped(rolls, clocks=rolls.randint(0, 2), places=3, arrows=6, cuts=1, most=3, limits=0.2, unseen=0.35)
            entries = random_entries(rolls, watcher)
            found = candidates(watcher, entries)
            if len(found) > 64:
                continue
            tables = tables_by_hand(watcher, entries)
            if not tables:
                seen["crossed"] += 1
                self.check_crossed(watcher, entries)
                continue
            log = Log(watcher, as_lists(entries))
            self.assertEqual(log.paths(), list(tables))
            self.assertEqual((log.entries(), len(log)), (entries, len(entries)))
            for way in found:
                if way in tables:
                    self.assertEqual(log.table(way), tables[way])
                    self.assertIsNone(log.barred(way))
                    continue
                seen["barred"] += 1
                self.assertTrue(is_ring(raw_table(watcher, entries, way), log.barred(list(way))))
                self.assertEqual(fault(lambda: log.table(way)), ("BadPath", way))
            seen["several"] += len(tables) > 1
        self.assertGreater(min(seen[word] for word in ("crossed", "barred", "several")), 15)

    def check_crossed(self, watcher, entries):
        many = [at for at in range(len(entries)) if not tables_by_hand(watcher, entries[:at + 1])]
        self.assertEqual(fault(lambda: Log(watcher, entries)), ("Crossed", many[0] if many else 0))

    def test_unseen_arrows_at_a_moment(self):
        watcher = Watcher(["x"], {"p": {}, "q": {}}, [("p", None, [("x", "from", 4)], [], "q")], [])
        self.assertEqual(Log(watcher, [(None, 4)]).paths(), [(), (0,)])
        self.assertEqual(Log(watcher, [(None, 3)]).paths(), [()])
        self.assertEqual(Log(watcher, []).paths(), [(), (0,)])
        self.assertEqual(Log(watcher, [(None, 4)]).time_gone(0), (("from", 4), ("upto", 4)))
        self.assertEqual(Log(watcher, [(None, 3), (None, 9)]).time_gone(0), (("from", 4), ("upto", 9)))

    def test_a_run_has_to_have_a_now(self):
        watcher = Watcher(["x"], {"p": {"x": ("upto", 3)}, "q": {}}, [("p", None, [("x", "above", 1)], [], "q")], [])
        self.assertEqual(Log(watcher, [(None, 3)]).paths(), [(), (0,)])
        self.assertEqual(Log(watcher, [(None, 4)]).paths(), [(0,)])
        self.assertEqual(Log(watcher, [(None, 4)]).time_gone(0), (("above", 1), ("upto", 3)))
        self.assertEqual(Log(watcher, [(None, 1)]).paths(), [()])
        self.assertIs(Log(watcher, [(None, 4)]).is_run([]), False)
        self.assertIs(Log(watcher, [(None, 3)]).is_run([]), True)
        stops = Watcher(["x"], {"p": {"x": ("below", 3)}}, [("p", "a", [], [], "p")], [])
        self.assertEqual(fault(lambda: Log(stops, [("a", 1), (None, 3)])), ("Crossed", 1))
        self.assertEqual(Log(stops, [("a", 2)]).time_now(), (("from", 2), ("below", 3)))

    def test_places_never_held(self):
        watcher = Watcher(["x"], {"p": {}, "q": {"x": ("below", 0)}}, [("p", "a", [], ["x"], "q"), ("p", "a", [], [], "p")], [])
        log = Log(watcher, [("a", 1)])
        self.assertEqual(log.paths(), [(1,)])
        self.assertEqual(fault(lambda: log.barred((0,))), ("BadPath", (0,)))
        never = Watcher(["x"], {"q": {"x": ("below", 0)}}, [("q", "a", [], ["x"], "q")], [])
        self.assertEqual(fault(lambda: Log(never, [])), ("Crossed", 0))
        self.assertEqual(fault(lambda: Log(never, [("a", None), ("a", 2)])), ("Crossed", 0))

    def test_signals_that_the_watcher_does_not_have(self):
        self.assertEqual(fault(lambda: Log(lamps(), [("lamp", None), ("bell", None)])), ("Crossed", 1))

    def test_great_times(self):
        great = 10 ** 12 - 1
        log = Log(lamps(), [("lamp", 1), ("lamp", great)])
        self.assertEqual(log.paths(), [(2, 2), (2, 0, 1), (2, 2, 0), (2, 0, 1, 0)])
        self.assertEqual(log.time_gone(0), (("from", great - 2), None))


class RunTest(unittest.TestCase):
    def test_runs(self):
        rolls = random.Random(2)
        truths = Counter()
        for _ in range(150):
            watcher, entries, tables = random_log(rolls)
            log = Log(watcher, entries)
            runs = [log.run()]
            for way, table in tables.items():
                worths = point(table)
                runs.append([(number, worths[name]) for number, name in zip(way, NAMES)])
            for run in runs:
                self.assertIs(log.is_run(as_lists(run)), True)
                self.assertTrue(is_log_run(watcher, entries, run))
                self.assertEqual([signal for signal, _ in heard(watcher, run)],
                                 [signal for signal, _ in entries if signal is not None])
            for _ in range(8):
                run = bent_run(rolls, watcher, rolls.choice(runs))
                wanted = is_log_run(watcher, entries, run)
                self.assertIs(log.is_run(run), wanted, (watcher.arrows(), entries, run))
                truths[wanted] += 1
        self.assertGreater(min(truths[True], truths[False]), 50)

    def test_any_objects(self):
        log = Log(lamps(), [("lamp", 4), (None, 4)])
        for thing in strange_objects() + [[(2,)], [(2, 4)], [(2, (4, 0))], [(True, (4, 1))], [(3, (4, 1))], [("2", (4, 1))]]:
            self.assertIs(log.is_run(thing), False)
        self.assertIs(Log(lamps(), []).is_run(()), True)

    def test_shown(self):
        rolls = random.Random(3)
        verdicts = Counter()
        for _ in range(100):
            watcher, entries, tables = random_log(rolls)
            log = Log(watcher, entries)
            for place in watcher.places():
                ends = {place_behind(watcher, way) == place for way in tables}
                wanted = "open" if len(ends) == 2 else "sure" if True in ends else "never"
                self.assertEqual(log.at(place), wanted)
                shown = log.shown(place)
                runs = shown if wanted == "open" else (shown,)
                self.assertEqual(len(runs), 2 if wanted == "open" else 1)
                for run, truth in zip(runs, [wanted != "never", False]):
                    self.assertIsInstance(run, list)
                    self.assertTrue(log.is_run(run))
                    self.assertIs(ended(watcher, run) == place, truth)
                verdicts[wanted] += 1
            self.assertLessEqual([log.at(place) for place in watcher.places()].count("sure"), 1)
        self.assertGreater(min(verdicts[word] for word in ("sure", "never", "open")), 15)

    def test_went_and_went_ahead(self):
        rolls = random.Random(4)
        verdicts = Counter()
        for _ in range(120):
            watcher, entries, tables = random_log(rolls)
            log = Log(watcher, entries)
            heard_ones = [signal for signal, _ in entries]
            for arrow in range(len(watcher.arrows())):
                wanted = self.verdict({arrow in way for way in tables})
                self.assertEqual(log.went(arrow), wanted)
                if watcher.arrows()[arrow][1] not in [None] + heard_ones:
                    self.assertEqual(wanted, "never")
                for other in range(len(watcher.arrows())):
                    ways = [way[::-1] for way in tables if arrow in way and other in way]
                    told = fault(lambda: log.went_ahead(arrow, other))
                    if not ways:
                        self.assertEqual(told, ("Apart",))
                        continue
                    wanted = self.verdict({way.index(arrow) > way.index(other) for way in ways})
                    self.assertEqual(log.went_ahead(arrow, other), "never" if arrow == other else wanted)
                    verdicts[wanted] += 1
        self.assertGreater(min(verdicts[word] for word in ("sure", "never", "open")), 10)

    def verdict(self, truths):
        return "open" if len(truths) == 2 else "sure" if True in truths else "never"


class WhenTest(unittest.TestCase):
    def test_times_and_worths_against_tables(self):
        rolls = random.Random(5)
        words = Counter()
        for _ in range(150):
            watcher, entries, tables = random_log(rolls)
            log = Log(watcher, entries)
            for clock in watcher.clocks():
                parts = [(table, candidate_parts(watcher, entries, way)[2].get(clock, ""), "now") for way, table in tables.items()]
                self.assertEqual(log.worth(clock), gap_by_hand(parts))
                words[(log.worth(clock)[1] or (None,))[0]] += 1
            for arrow in range(len(watcher.arrows())):
                parts = [(table, "", NAMES[len(way) - 1 - way[::-1].index(arrow)]) for way, table in tables.items() if arrow in way]
                self.assertEqual(log.time_gone(arrow), gap_by_hand(parts) if parts else None)
            self.assertEqual(log.time_now(), gap_by_hand([(table, "", "now") for table in tables.values()]))
            many = 0
            for index, (signal, told) in enumerate(entries):
                if told is not None:
                    self.assertEqual(log.time_of(index), (("from", told), ("upto", told)))
                if signal is not None:
                    self.assertEqual(log.time_of(index), self.heard_gap(watcher, tables, many))
                    many += 1
        self.assertGreater(min(words[word] for word in ("upto", "below", None)), 5)

    def heard_gap(self, watcher, tables, many):
        parts = []
        for way, table in tables.items():
            names = [name for name, number in zip(NAMES, way) if watcher.arrows()[number][1] is not None]
            parts.append((table, "", names[many]))
        return gap_by_hand(parts)

    def test_next_ones_against_tables(self):
        rolls = random.Random(6)
        sizes = Counter()
        for _ in range(120):
            watcher, entries, tables = random_log(rolls)
            log = Log(watcher, entries)
            parts = {}
            for way in tables:
                names, asked, begun = candidate_parts(watcher, entries, way)
                for longer in self.longer_ways(watcher, place_behind(watcher, way)):
                    more = ["next" + name for name in NAMES[:len(longer)]]
                    asked_more, _ = asked_of(watcher, longer, more, "now", begun)
                    table = table_of(names + more, asked + asked_more)
                    if point(table) is not None:
                        signal = watcher.arrows()[longer[-1]][1]
                        parts.setdefault(signal, []).append((closed(table), "", more[-1]))
            wanted = {signal: gap_by_hand(parts[signal]) for signal in sorted(parts)}
            self.assertEqual(log.next_ones(), wanted)
            self.assertEqual(list(log.next_ones()), list(wanted))
            sizes[len(wanted)] += 1
            for signal in watcher.signals() + ["other"]:
                error = error_of(lambda: log.more(signal))
                self.assertIs(error is None, signal in wanted)
                self.assertIn(error and (error.__class__.__name__, error.index), (None, ("Crossed", len(log))))
        self.assertGreater(len(sizes), 2)

    def longer_ways(self, watcher, place):
        """All ways of unseen arrows, or none, and one with a signal behind them."""
        level, found = [((), place)], []
        while level:
            behind = [(way + (number,), arrow[4]) for way, at in level for number, arrow in enumerate(watcher.arrows())
                      if arrow[0] == at and ("below", 0) not in watcher.limit(arrow[4]).values()]
            found += [way for way, _ in behind if watcher.arrows()[way[-1]][1] is not None]
            level = [(way, to) for way, to in behind if watcher.arrows()[way[-1]][1] is None]
        return found

    def test_unseen_arrows_ahead_of_the_next_signal(self):
        arrows = [("p", None, [("x", "from", 5)], ["x"], "q"), ("q", None, [("x", "above", 1)], [], "r"),
                  ("r", "bell", [("x", "below", 9)], [], "p"), ("p", "lamp", [], [], "p")]
        log = Log(Watcher(["x"], {"p": {}, "q": {}, "r": {}}, arrows, []), [("lamp", None), (None, 2)])
        self.assertEqual(log.paths(), [(3,)])
        self.assertEqual(log.next_ones(), {"bell": (("above", 6), None), "lamp": (("from", 2), None)})
        self.assertEqual(log.more("bell").paths()[0], (3, 0, 1, 2))

    def test_a_clock_that_nothing_begins(self):
        watcher = Watcher(["x", "y"], {"p": {"y": ("below", 7)}}, [("p", "a", [], ["y"], "p")], [])
        log = Log(watcher, [("a", 5), (None, 9)])
        self.assertEqual((log.worth("x"), log.worth("y")), ((("from", 9), ("upto", 9)), (("from", 4), ("upto", 4))))
        self.assertEqual(log.next_ones(), {"a": (("from", 9), ("below", 12))})


class GrowingTest(unittest.TestCase):
    def test_more(self):
        rolls = random.Random(7)
        many = 0
        for _ in range(150):
            watcher, entries, tables = random_log(rolls, 3)
            log = Log(watcher, entries)
            signal, told = rolls.choice(["a", "b", None]), rolls.choice([None, None, 1, 2, 3, 5])
            entry = (signal, told)
            error = error_of(lambda: log.more(signal, told))
            other = error_of(lambda: Log(watcher, entries + [entry]))
            self.assertEqual(error and vars(error), other and vars(other))
            self.assertEqual(error.__class__, other.__class__)
            if error is not None:
                self.assertEqual(error.index, len(log))
                continue
            longer = log.more(signal, told)
            many += 1
            self.assertEqual((longer, log.entries()), (Log(watcher, entries + [entry]), entries))
            self.check_facts(watcher, log, longer, signal)
        self.assertGreater(many, 30)

    def check_facts(self, watcher, log, longer, signal):
        paths = log.paths()
        for path in longer.paths():
            self.assertTrue(any(path[:len(ahead)] == ahead for ahead in paths))
        for arrow, (_, name, _, _, _) in enumerate(watcher.arrows()):
            if log.went(arrow) == "sure":
                self.assertEqual(longer.went(arrow), "sure")
            if log.went(arrow) == "never" and name is not None and name != signal:
                self.assertEqual(longer.went(arrow), "never")
            if name is not None and name != signal and log.time_gone(arrow) is not None:
                self.check_not_wider(log.time_gone(arrow), longer.time_gone(arrow))
        for index in range(len(log)):
            self.check_not_wider(log.time_of(index), longer.time_of(index))

    def check_not_wider(self, gap, other):
        if other is not None:
            low, high = gap
            self.assertTrue(low is None or (other[0][1], other[0][0] == "above") >= (low[1], low[0] == "above"))
            self.assertTrue(high is None or (other[1] is not None and
                                             (other[1][1], other[1][0] == "upto") <= (high[1], high[0] == "upto")))

    def test_lost(self):
        rolls = random.Random(8)
        for _ in range(60):
            watcher, entries, tables = random_log(rolls)
            log = Log(watcher, entries)
            other = lost(log)
            self.assertEqual(other.entries(), [(signal, None) for signal, _ in entries if signal is not None])
            self.assertTrue(set(log.paths()) <= set(other.paths()))
            self.assertEqual(other, Log(watcher, other.entries()))

    def test_least_lost(self):
        rolls = random.Random(9)
        sizes = Counter()
        for _ in range(150):
            watcher, entries, _ = random_log(rolls, 3, unseen=0.2)
            entries = [(signal, told if told is None or rolls.random() < 0.4 else rolls.randint(0, 5))
                       for signal, told in entries][:5]
            numbers = [at for at, (_, told) in enumerate(entries) if told is not None]

            def is_log(lot):
                kept = [(signal, None if at in lot else told) for at, (signal, told) in enumerate(entries)]
                return error_of(lambda: Log(watcher, [pair for pair in kept if pair != (None, None)])) is None

            wanted = fewest(numbers, is_log)
            self.assertEqual(least_lost(watcher, entries), wanted)
            self.assertIs(wanted == [()], error_of(lambda: Log(watcher, entries)) is None)
            sizes[len(wanted[0]) if wanted else None] += 1
        self.assertGreater(len(sizes), 2)

    def test_times_that_fall(self):
        self.assertEqual(least_lost(lamps(), [("lamp", 5), ("lamp", 3)]), [(0,), (1,)])
        self.assertEqual(least_lost(lamps(), [(None, 5), ("lamp", 3), (None, 2)]), [(0, 1), (0, 2), (1, 2)])
        self.assertEqual(least_lost(lamps(), []), [()])
        self.assertEqual(least_lost(lamps(), [("bell", 3)]), [])
        never = Watcher(["x"], {"q": {"x": ("below", 0)}}, [], [])
        self.assertEqual(least_lost(never, []), [])


class ErrorsTest(unittest.TestCase):
    def looped(self, *arrows):
        return Watcher(["x"], {"p": {}, "q": {}, "r": {}}, arrows, [])

    def check_loop(self, watcher):
        for work in (lambda: Log(watcher, None), lambda: least_lost(watcher, None)):
            error = error_of(work)
            self.assertEqual(error.__class__.__name__, "Looped")
            told = [watcher.arrows()[number] for number in error.arrows]
            self.assertIsInstance(error.arrows, tuple)
            self.assertTrue(error.arrows)
            for one, other in zip(told, told[1:] + told[:1]):
                self.assertEqual((one[1], one[4]), (None, other[0]))

    def test_looped(self):
        self.check_loop(self.looped(("p", "a", [], [], "q"), ("q", None, [("x", "below", 0)], [], "q")))
        self.check_loop(self.looped(("p", None, [], [], "q"), ("q", None, [], [], "r"), ("r", None, [], [], "q")))
        self.check_loop(self.looped(("r", None, [], ["x"], "p"), ("p", None, [], [], "q"), ("q", "a", [], [], "q"),
                                    ("q", None, [], [], "r"), ("q", None, [], [], "p")))
        straight = self.looped(("p", None, [], [], "q"), ("q", None, [], [], "r"), ("p", None, [], [], "r"), ("r", "a", [], [], "p"))
        self.assertEqual(fault(lambda: Log(straight, None)), ("BadEntry", 0))
        rolls = random.Random(10)
        for _ in range(60):
            watcher = random_watcher(rolls, places=4, arrows=6, unseen=0.7)
            error = error_of(lambda: Log(watcher, None))
            if error.__class__.__name__ == "Looped":
                self.check_loop(watcher)
            else:
                self.assertFalse(self.leads_round(watcher))

    def leads_round(self, watcher):
        reached = {place: {arrow[4] for arrow in watcher.arrows() if arrow[1] is None and arrow[0] == place}
                   for place in watcher.places()}
        for _ in watcher.places():
            reached = {place: to.union(*[reached[one] for one in to]) for place, to in reached.items()}
        return any(place in to for place, to in reached.items())

    def test_bad_entries(self):
        wrong = [(None, 0), ({}, 0), ("lamp", 0), ([None], 0), ([("lamp", 1), ("lamp",)], 1), ([("lamp", 1, 2)], 0),
                 ([("Lamp", 1)], 0), ([("", 1)], 0), ([("lamp", -1)], 0), ([("lamp", True)], 0), ([("lamp", (1, 1))], 0),
                 ([(None, None)], 0), ([(None, True)], 0), ([(1, 1)], 0), ([(["lamp"], 1)], 0),
                 ([("lamp", 3), ("lamp", None), ("lamp", 2)], 2), ([(None, 3), (None, 2)], 1),
                 ([("lamp", 3), ("lamp", 2), None], 1), ([("lamp", 3), None, ("lamp", 2)], 1)]
        for entries, index in wrong:
            self.assertEqual(fault(lambda: Log(lamps(), entries)), ("BadEntry", index), entries)
        for thing in strange_objects():
            if not isinstance(thing, (list, tuple)):
                self.assertEqual(fault(lambda: Log(lamps(), thing)), ("BadEntry", 0))
                self.assertEqual(fault(lambda: least_lost(lamps(), thing)), ("BadEntry", 0))
            if thing != ["a", None]:
                self.assertEqual(fault(lambda: Log(lamps(), [("lamp", 1), ["lamp", None], [thing, 1, 1]])), ("BadEntry", 2))
        self.assertEqual(fault(lambda: least_lost(lamps(), [("lamp", 3), ("lamp", 2), ("lamp", -1)])), ("BadEntry", 2))
        self.assertEqual(fault(lambda: least_lost(lamps(), [("lamp", 3), ("lamp", 2), (None, None)])), ("BadEntry", 2))

    def test_bad_entries_ahead_of_crossed_ones(self):
        self.assertEqual(fault(lambda: Log(lamps(), [("bell", 3), ("lamp", 2)])), ("BadEntry", 1))
        self.assertEqual(fault(lambda: Log(lamps(), [("bell", 3), ("lamp", 3)])), ("Crossed", 0))

    def test_any_objects(self):
        log = Log(lamps(), [("lamp", 4), (None, 4)])
        self.check_named(log, "NoPlace", "name", [log.at, log.shown], lambda thing: False)
        self.check_named(log, "NoClock", "clock", [log.worth], lambda thing: False)
        self.check_named(log, "NoEntry", "index", [log.time_of], lambda thing: thing in (0, 1))
        self.assertEqual(fault(lambda: log.time_of(2)), ("NoEntry", 2))
        arrows = [log.went, log.time_gone, lambda arrow: log.went_ahead(arrow, None), lambda arrow: log.went_ahead(1, arrow)]
        self.check_named(log, "NoArrow", "arrow", arrows, lambda thing: thing in (0, 1, 2))
        self.check_named(log.more("lamp"), "BadPath", "thing", [log.more("lamp").table, log.more("lamp").barred],
                         lambda thing: False)
        for path in ((0,), (1,), (0, 1, 0), (2, 2), (2, 0, 1), (7,), (-1,), (True,), [None], "2", (0, 2)):
            self.assertEqual(fault(lambda: log.table(path)), ("BadPath", path))
        for path in ((0,), (1,), (2, 2), (2, 0, 1), (7,), (-1,), (True,), [None], "2", (0, 2), ()):
            self.assertEqual(fault(lambda: log.barred(path)), ("BadPath", path))
        for signal, told in ((1, 1), ("L", 1), (None, None), ("lamp", -1), ("lamp", 3), (None, 3), ("lamp", (5, 1))):
            self.assertEqual(fault(lambda: log.more(signal, told)), ("BadEntry", 2))
        self.assertEqual(fault(lambda: log.more("bell", 9)), ("Crossed", 2))

    def check_named(self, log, name, field, works, is_well):
        for thing in strange_objects() + [-1, 10 ** 20]:
            is_number = isinstance(thing, int) and not isinstance(thing, bool)
            for work in works:
                if is_number and is_well(thing):
                    continue
                error = error_of(lambda: work(thing))
                self.assertEqual(error.__class__.__name__, name)
                self.assertIs(getattr(error, field), thing)

    def test_equal(self):
        log = Log(lamps(), [("lamp", 4), (None, 4)])
        self.assertTrue(log == Log(as_told(lamps()), (["lamp", 4], [None, 4])))
        for entries in ([("lamp", 4)], [("lamp", None), (None, 4)], [("lamp", 4), (None, 5)], []):
            self.assertTrue(log != Log(lamps(), entries))
        other = Watcher(["x"], {"calm": {}, "alarm": {}}, lamps().arrows(), ["calm"])
        self.assertFalse(log == Log(other, [("lamp", 4), (None, 4)]))
        for thing in strange_objects():
            self.assertFalse(log == thing)

    def test_what_callers_change_changes_nothing(self):
        entries = [["lamp", 4], [None, 4]]
        log = Log(lamps(), entries)
        entries[0][1] = 2
        entries.append(["lamp", 9])
        for told in (log.entries(), log.paths(), log.run(), log.next_ones(), log.shown("alarm")[0]):
            told.clear()
        self.assertEqual(log, Log(lamps(), [("lamp", 4), (None, 4)]))
        self.assertEqual((log.paths(), list(log.next_ones())), ([(2,), (0, 1), (2, 0)], ["lamp"]))
        self.assertTrue(log.is_run(log.run()))

    def test_what_is_free_is_the_same_for_equal_ones(self):
        rolls = random.Random(11)
        for _ in range(30):
            watcher, entries, _ = random_log(rolls)
            one, other = Log(watcher, entries), Log(as_told(watcher), tuple(as_lists(entries)))
            self.assertEqual((one.run(), [one.shown(place) for place in watcher.places()]),
                             (other.run(), [other.shown(place) for place in watcher.places()]))
            for way in candidates(watcher, entries):
                self.assertEqual(one.barred(way), other.barred(list(way)))


class SoonTest(unittest.TestCase):
    def timed(self, work):
        begin = time.monotonic()
        try:
            return work()
        except ClockError as error:
            return error
        finally:
            self.assertLess(time.monotonic() - begin, 1)

    def test_twelve_arrows_and_sixty_four_candidates(self):
        places = {place: {"x": ("upto", 9)} for place in "pqrs"}
        arrows = [("p", None, [("x", "from", 1)], [], "q"), ("q", None, [("y", "from", 1)], ["x"], "r"),
                  ("p", "a", [("z", "from", 0)], ["y"], "p"), ("q", "a", [], ["x"], "p"), ("r", "a", [("z", "upto", 9)], ["x", "z"], "p")]
        watcher = Watcher(["x", "y", "z"], places, arrows, [])
        entries = [("a", None), (None, 3), ("a", 5)]
        self.assertLessEqual(len(candidates(watcher, entries)), 64)
        entries = [("a", None), ("a", 4), ("a", None)]
        log = self.timed(lambda: Log(watcher, entries))
        self.assertGreater(len(log.paths()), 30)
        barred = [way for way in candidates(watcher, entries) if way not in log.paths()]
        works = [log.next_ones, log.run, log.time_now, lambda: log.worth("y"), lambda: lost(log), lambda: log.more("a", 7),
                 lambda: log.more("a"), lambda: least_lost(watcher, entries + [(None, 2), ("a", 3)]),
                 lambda: [log.barred(way) for way in barred], lambda: log.table(log.paths()[-1])]
        for work in works:
            self.timed(work)

    def test_long_paths(self):
        arrows = [("p", None, [("x", "from", 1)], ["x"], "q"), ("q", None, [("x", "above", 1)], ["x"], "r"),
                  ("r", "a", [("x", "below", 3), ("y", "from", 3)], ["x", "y"], "p"), ("p", "b", [], [], "p")]
        watcher = Watcher(["x", "y"], {"p": {}, "q": {"x": ("upto", 4)}, "r": {"y": ("upto", 9)}}, arrows, [])
        entries = [("a", None), ("a", 9), (None, 11), ("a", None), ("a", 20)]
        log = self.timed(lambda: Log(watcher, entries))
        self.assertEqual(len(log.paths()[0]), 12)
        for work in (log.next_ones, log.run, lambda: log.worth("y"), lambda: least_lost(watcher, entries),
                     lambda: log.more("a", 25), lambda: log.more("b")):
            self.timed(work)
        self.assertTrue(is_run(watcher, log.run()))
        self.assertTrue(is_point(log.table(log.paths()[0]), point(log.table(log.paths()[0]))))
        self.assertEqual(spread(log.table(log.paths()[0]), "now", ""), (("from", 20), None))


if __name__ == "__main__":
    unittest.main()
