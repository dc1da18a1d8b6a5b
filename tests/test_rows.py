"""[16] to [20]: sets of rows."""

import random
import unittest

from rowsintime.errors import BadLane, BadNumber, BadRow, BadSignals, BadSpot, UnlikeSignals
from rowsintime.kinds import is_name
from rowsintime.rows import Rows, parting
from rowsintime.tables import Table
from tests.helper import all_rows, error_of, leads, random_told, spots_of_row, strange_objects

LANES = [(0, "a", 1), (1, None, 0), (0, "b", 2), (1, "b", 2)]
NONE = Rows(["a", "b"], [], [], [])
ALL = Rows(["a", "b"], [(0, "a", 0), (0, "b", 0)], [0], [0])


def example():
    """The set of b, ab, aab and so on."""
    return Rows(["b", "a"], LANES, [0], [2])


def just(signals, rows):
    """The set of just these rows, told by a way of its own for each."""
    lanes, firsts, ends, spot = [], [], [], 0
    for row in rows:
        firsts.append(spot)
        for signal in row:
            lanes.append((spot, signal, spot + 1))
            spot += 1
        ends.append(spot)
        spot += 1
    return Rows(list(signals), lanes, firsts, ends)


def long_row(told, most):
    """The lengths of rows of what Rows is told by, up to a most one."""
    _, lanes, firsts, ends = told
    any_signal = [(spot, None if signal is None else "a", to) for spot, signal, to in lanes]
    return [length for length in range(most + 1)
            if spots_of_row(any_signal, firsts, ["a"] * length) & set(ends)]


class MadeTest(unittest.TestCase):
    def test_the_example(self):
        rows = example()
        self.assertEqual(rows.first(), ("b",))
        self.assertEqual(rows.least(), (2, [(0, "a", 0), (0, "b", 1)], [1]))
        self.assertIsNone(rows.many())
        self.assertEqual(rows.count(3), 1)
        self.assertEqual(rows.signals(), ["a", "b"])
        begun = rows.begun()
        for row in all_rows("ab", 5):
            self.assertIs(row in rows, row[-1:] == ("b",) and row.count("b") == 1)
            self.assertIs(row in begun, row in rows or row.count("b") == 0)

    def test_signals_are_ascending_used_or_not(self):
        self.assertEqual(Rows(["c", "a", "bell", "b"], [(0, "b", 0)], [0], [0]).signals(), ["a", "b", "bell", "c"])
        self.assertEqual(Rows([], [], [], []).signals(), [])

    def test_without_signals(self):
        empty = Rows([], [(3, None, 3)], [3], [4])
        whole = Rows([], [(3, None, 4)], [3], [4])
        self.assertEqual(empty.least(), (1, [], []))
        self.assertEqual(whole.least(), (1, [], [0]))
        self.assertEqual((empty.many(), whole.many()), (0, 1))
        self.assertEqual((empty.first(), whole.first()), (None, ()))
        self.assertIs(() in empty, False)
        self.assertIs(() in whole, True)
        self.assertEqual(~empty, whole)
        self.assertEqual(~whole, empty)
        self.assertEqual(whole.listed(3), [()])

    def test_without_rows(self):
        for rows in (NONE, Rows(["a", "b"], [(0, "a", 0), (0, "b", 1)], [0], []), Rows(["a", "b"], LANES, [], [2]),
                     Rows(["a", "b"], [(0, "a", 1), (2, "a", 3)], [0], [3])):
            self.assertEqual(rows, NONE)
            self.assertEqual(rows.least(), (1, [], []))
            self.assertIsNone(rows.first())
            self.assertEqual(rows.many(), 0)
            self.assertEqual(rows.count(0), 0)
            self.assertEqual(rows.listed(4), [])
            self.assertEqual(rows.begun(), NONE)
            self.assertEqual(rows.behind(["a"]), NONE)
            self.assertEqual(~rows, ALL)

    def test_lanes_without_signals_lead_round(self):
        lanes = [(0, None, 1), (1, None, 2), (2, None, 0), (2, "a", 5), (5, None, 5), (5, None, 1), (5, "b", 7)]
        rows = Rows(["a", "b"], lanes, [1], [7])
        self.assertEqual(rows.least(), (3, [(0, "a", 1), (1, "a", 1), (1, "b", 2)], [2]))

    def test_spots_great_and_small_and_twice(self):
        great = 10 ** 30
        lanes = [(great, "a", 0), (great, "a", 0), (0, "b", great + 1), (7, "a", 7)]
        rows = Rows(["a", "b"], lanes, [great, great], [great + 1, 99, great + 1])
        self.assertEqual(rows.listed(5), [("a", "b")])
        self.assertEqual(rows.least(), (3, [(0, "a", 1), (1, "b", 2)], [2]))

    def test_lists_and_tuples_alike(self):
        rows = Rows(("b", "a"), tuple([list(lane) for lane in LANES]), (0,), (2,))
        self.assertEqual(rows, example())
        self.assertIs(["a", "b"] in rows, True)
        self.assertIs(("a", "b") in rows, True)

    def test_what_is_passed_is_copied_and_not_changed(self):
        signals, lanes, firsts, ends = ["b", "a"], [list(lane) for lane in LANES], [0], [2]
        rows = Rows(signals, lanes, firsts, ends)
        self.assertEqual((signals, lanes, firsts, ends), (["b", "a"], [list(lane) for lane in LANES], [0], [2]))
        signals.append("c")
        lanes[0][1] = "b"
        firsts.append(2)
        ends.clear()
        self.assertEqual(rows, example())

    def test_what_is_told_is_the_callers_own(self):
        rows = example()
        rows.signals().append("c")
        _, lanes, ends = rows.least()
        lanes.clear()
        ends.append(0)
        rows.listed(3).clear()
        self.assertEqual(rows, example())
        self.assertEqual(rows.least(), (2, [(0, "a", 0), (0, "b", 1)], [1]))
        self.assertIsInstance(rows.least(), tuple)
        self.assertIsInstance(rows.least()[1][0], tuple)

    def test_what_is_told_may_be_handed_in_again(self):
        rolls = random.Random(1)
        for _ in range(60):
            rows = Rows(*random_told(rolls, ["a", "b", "c"]))
            many, lanes, ends = rows.least()
            self.assertEqual(Rows(rows.signals(), lanes, [0], ends), rows)
            self.assertEqual(Rows(rows.signals(), lanes, [0], ends).least(), (many, lanes, ends))


class InTest(unittest.TestCase):
    def test_any_objects(self):
        rows = Rows(["a", "b"], [(0, "a", 0)], [0], [0])
        for thing in strange_objects():
            self.assertIs(thing in rows, thing in ([], (), ["a"], ("a",)))
            self.assertIs(("a", thing) in rows, thing == "a")
            self.assertIs([thing] in rows, thing == "a")
        self.assertIs("aa" in rows, False)
        self.assertIs("" in rows, False)
        self.assertIs({} in rows, False)
        self.assertIs({"a": 1} in rows, False)
        self.assertIs(rows in rows, False)
        self.assertIs(("c",) in rows, False)

    def test_many_sets(self):
        rolls = random.Random(2)
        for round_ in range(120):
            told = random_told(rolls, ["a", "b", "c"][:round_ % 4])
            rows = Rows(*told)
            for row in all_rows(told[0], 5):
                self.assertIs(row in rows, leads(told, row))


class LeastTest(unittest.TestCase):
    def test_many_sets(self):
        rolls = random.Random(3)
        for round_ in range(150):
            told = random_told(rolls, ["b", "a", "c"][:round_ % 3 + 1], 4, 8)
            self.check(Rows(*told), told)

    def check(self, rows, told):
        many, lanes, ends = rows.least()
        self.assertEqual(lanes, sorted(lanes))
        self.assertEqual(ends, sorted(set(ends)))
        moves = {(spot, signal): to for spot, signal, to in lanes}
        self.assertEqual(len(moves), len(lanes))
        if not ends:
            self.assertEqual((many, lanes), (1, []))
            self.assertFalse(any(leads(told, row) for row in all_rows(told[0], 5)))
            return
        # Spots are numbered by the first rows that lead there: going on from each in order comes to them in order.
        found = [0]
        for spot in range(many):
            self.assertLess(spot, len(found))
            for signal in rows.signals():
                to = moves.get((spot, signal))
                if to is not None and to not in found:
                    self.assertEqual(to, len(found))
                    found.append(to)
        self.assertEqual(found, list(range(many)))
        behind = [self.rows_from(moves, ends, spot, rows.signals()) for spot in range(many)]
        self.assertTrue(all(behind))
        for spot in range(many):
            self.assertNotIn(behind[spot], behind[:spot])
        self.assertEqual(behind[0], [row for row in all_rows(told[0], 7) if leads(told, row)])

    def rows_from(self, moves, ends, spot, signals):
        found = []
        for row in all_rows(signals, 7):
            here = spot
            for signal in row:
                here = moves.get((here, signal))
            if here in ends:
                found.append(row)
        return found

    def test_spots_are_the_sets_behind(self):
        rolls = random.Random(4)
        for _ in range(60):
            rows = Rows(*random_told(rolls, ["a", "b"], 4, 8))
            unlike = []
            for row in all_rows(["a", "b"], 6):
                behind = rows.behind(row)
                if behind.first() is not None and behind not in unlike:
                    unlike.append(behind)
            self.assertEqual(max(1, len(unlike)), rows.least()[0])

    def test_equal_just_if_least_machines_are(self):
        rolls = random.Random(5)
        sets = [Rows(*random_told(rolls, ["a", "b"], 3, 4)) for _ in range(60)]
        alike = 0
        for one in sets:
            for other in sets:
                same = all((row in one) == (row in other) for row in all_rows("ab", 6))
                alike += same
                self.assertIs(one == other, same)
                self.assertIs(one != other, not same)
                self.assertEqual(one.least() == other.least(), same)
        self.assertGreater(alike, 200)

    def test_sixty_four_lots(self):
        lanes = [(0, "a", 0), (0, "b", 0), (0, "a", 1)] + [(at, signal, at + 1) for at in range(1, 6) for signal in "ab"]
        rows = Rows(["a", "b"], lanes, [0], [6])
        self.assertEqual(rows.least()[0], 64)
        self.assertEqual((~rows).least()[0], 64)
        self.assertEqual(rows | ~rows, ALL)
        self.assertEqual(rows & ~rows, NONE)
        self.assertEqual(rows.count(20), 2 ** 19)


class EqualTest(unittest.TestCase):
    def test_whatever_they_were_made_of(self):
        self.assertTrue(example() == Rows(["a", "b"], [(0, "a", 0), (0, "b", 1), (1, None, 1), (5, "a", 1)], [0], [1]))
        self.assertFalse(example() == Rows(["a", "b", "c"], LANES, [0], [2]))
        self.assertFalse(example() == Rows(["a", "b"], LANES, [0], [2, 0]))
        self.assertTrue(example() != Rows(["a", "b"], LANES, [0], [2, 0]))

    def test_a_set_equals_nothing_else(self):
        rows = Rows(["c"], [(0, "c", 0)], [0], [0])
        for thing in strange_objects() + [["c"], rows.least(), rows.listed(2), Table(["c"], {})]:
            self.assertIs(rows == thing, False)
            self.assertIs(thing == rows, False)
            self.assertIs(rows != thing, True)


class SignsTest(unittest.TestCase):
    def test_many_sets(self):
        rolls = random.Random(6)
        for _ in range(80):
            one_told, other_told = random_told(rolls, ["a", "b"]), random_told(rolls, ["b", "a"])
            one, other = Rows(*one_told), Rows(*other_told)
            signs = {"and": one & other, "or": one | other, "less": one - other, "xor": one ^ other, "not": ~one}
            parted = []
            for row in all_rows("ab", 6):
                here, there = leads(one_told, row), leads(other_told, row)
                self.assertIs(row in signs["and"], here and there)
                self.assertIs(row in signs["or"], here or there)
                self.assertIs(row in signs["less"], here and not there)
                self.assertIs(row in signs["xor"], here != there)
                self.assertIs(row in signs["not"], not here)
                if here != there:
                    parted.append(row)
            self.assertEqual(parting(one, other), parted[0] if parted else None)
            self.assertIs(one.is_within(other), signs["less"] == NONE)
            self.assertIs(one.is_within(other), all(leads(other_told, row) for row in all_rows("ab", 6)
                                                    if leads(one_told, row)))
            for told in signs.values():
                self.assertEqual(told.signals(), ["a", "b"])
            self.assertEqual(~signs["not"], one)
            self.assertEqual((one, other), (Rows(*one_told), Rows(*other_told)))

    def test_within(self):
        self.assertIs(NONE.is_within(example()), True)
        self.assertIs(example().is_within(ALL), True)
        self.assertIs(ALL.is_within(example()), False)
        self.assertIs(example().is_within(NONE), False)
        self.assertIs(example().is_within(example()), True)

    def test_parting(self):
        self.assertIsNone(parting(example(), example()))
        self.assertEqual(parting(NONE, ALL), ())
        self.assertEqual(parting(example(), ALL), ())
        self.assertEqual(parting(just("ab", ["b", "aa"]), just("ab", ["b", "ab"])), ("a", "a"))
        self.assertEqual(parting(other=NONE, one=example()), ("b",))

    def test_the_same_of_unlike_orders(self):
        one = Rows(["a", "c", "b"], [(0, "c", 1)], [0], [1])
        other = Rows(["b", "a", "c"], [(0, "c", 1)], [0], [1])
        self.assertEqual(one & other, one)
        self.assertIsNone(parting(one, other))

    def test_unlike_signals(self):
        one = example()
        for signals in ([], ["a"], ["a", "c"], ["a", "b", "c"]):
            other = Rows(signals, [], [], [])
            for first, second in ((one, other), (other, one)):
                for work in (lambda: first & second, lambda: first | second, lambda: first - second,
                             lambda: first ^ second, lambda: first.is_within(second), lambda: parting(first, second)):
                    self.assertIs(type(error_of(work)), UnlikeSignals)


class CountTest(unittest.TestCase):
    def test_many_sets(self):
        rolls = random.Random(7)
        endless = 0
        for round_ in range(150):
            told = random_told(rolls, ["c", "a", "b"][:round_ % 4], 4, 8)
            rows = Rows(*told)
            found = [row for row in all_rows(told[0], 5) if leads(told, row)]
            self.assertEqual(rows.listed(5), found)
            self.assertEqual(rows.listed(2), [row for row in found if len(row) <= 2])
            self.assertEqual(rows.listed(0), [row for row in found if not row])
            for n in range(6):
                self.assertEqual(rows.count(n), len([row for row in found if len(row) == n]))
            # Four spots make sixteen lots: a row as long as that comes to one of them twice.
            is_endless = any(length > 15 for length in long_row(told, 31))
            endless += is_endless
            self.assertEqual(rows.many(), None if is_endless else len(found))
            if found or not is_endless:
                self.assertEqual(rows.first(), found[0] if found else None)
        self.assertGreater(endless, 20)

    def test_told_rows_are_tuples(self):
        for row in ALL.listed(3) + [ALL.first(), example().first(), parting(ALL, NONE)]:
            self.assertIsInstance(row, tuple)

    def test_forty_signals(self):
        five = Rows(list("abcde"), [(0, signal, 0) for signal in "abcde"], [0], [0])
        self.assertEqual(five.count(40), 5 ** 40)
        self.assertIsNone(five.many())
        row = ["a"] * 40
        self.assertEqual(just("a", [row]).count(40), 1)
        self.assertEqual(just("a", [row]).count(39), 0)
        self.assertEqual(just("a", [row]).many(), 1)
        self.assertEqual(just("a", [row]).first(), tuple(row))

    def test_listed_of_eight(self):
        rows = example()
        self.assertEqual(rows.listed(8), [("a",) * n + ("b",) for n in range(8)])
        self.assertEqual(just("ab", ["ba", "", "ab", "b", "bb"]).listed(8),
                         [(), ("b",), ("a", "b"), ("b", "a"), ("b", "b")])

    def test_bad_numbers(self):
        for thing in strange_objects() + [(1, 1), "1"]:
            if isinstance(thing, int) and not isinstance(thing, bool) and thing >= 0:
                continue
            for work in (lambda: example().count(thing), lambda: NONE.listed(thing)):
                error = error_of(work)
                self.assertIs(type(error), BadNumber)
                self.assertIs(error.thing, thing)


class BeginningsTest(unittest.TestCase):
    def test_many_sets(self):
        rolls = random.Random(8)
        for _ in range(60):
            told = random_told(rolls, ["a", "b"], 3, 5)
            rows = Rows(*told)
            begun = rows.begun()
            self.assertEqual(begun.signals(), ["a", "b"])
            found = [row for row in all_rows("ab", 8) if leads(told, row)]
            begins = {row[:n] for row in found for n in range(len(row) + 1)}
            # Among three spots an end that is come to at all is so by two signals: found has all beginnings up to six.
            for row in all_rows("ab", 3):
                self.assertIs(row in begun, row in begins)
                behind = rows.behind(row)
                self.assertEqual(behind.signals(), ["a", "b"])
                for tail in all_rows("ab", 4):
                    self.assertIs(tail in behind, row + tail in found)
            self.assertEqual(begun.begun(), begun)
            self.assertEqual(rows.behind([]), rows)
            self.assertEqual(rows.behind(list("ab")), rows.behind(("a",)).behind(("b",)))

    def test_ordinary(self):
        self.assertEqual(example().behind(["a"]), example())
        self.assertEqual(example().behind(("b",)), Rows(["a", "b"], [], [4], [4]))
        self.assertEqual(example().behind(("b", "b")), NONE)
        self.assertEqual(just("ab", ["ab"]).begun().listed(4), [(), ("a",), ("a", "b")])
        self.assertEqual(example().behind(row=["a"]), example())

    def test_bad_rows(self):
        for rows in (example(), NONE):
            for thing in strange_objects():
                if not isinstance(thing, (list, tuple)):
                    self.check_bad(rows, thing, 0)
                if thing not in ("a", "b"):
                    self.check_bad(rows, ["b", "b", thing, 7], 2)
            self.check_bad(rows, ("c",), 0)
            self.check_bad(rows, "a", 0)

    def check_bad(self, rows, row, index):
        error = error_of(lambda: rows.behind(row))
        self.assertIs(type(error), BadRow)
        self.assertEqual(error.index, index)


class MadeErrorsTest(unittest.TestCase):
    def check(self, kind, index, signals, lanes, firsts, ends):
        error = error_of(lambda: Rows(signals, lanes, firsts, ends))
        self.assertIs(type(error), kind)
        self.assertEqual(error.index, index)
        self.assertIs(type(error.index), int)

    def test_bad_signals(self):
        for thing in strange_objects():
            if not isinstance(thing, (list, tuple)):
                self.check(BadSignals, 0, thing, None, None, None)
            if not is_name(thing):
                self.check(BadSignals, 1, ["a", thing, "a"], [1], [], [])
        self.check(BadSignals, 2, ("a", "b", "a"), [], [], [])

    def test_bad_lanes(self):
        for thing in strange_objects():
            if not isinstance(thing, (list, tuple)):
                self.check(BadLane, 0, ["a", "b"], thing, [-1], [-1])
            self.check(BadLane, 1, ["a", "b"], [(0, "a", 1), thing, 3], [-1], [])
            if not isinstance(thing, int) or isinstance(thing, bool) or thing < 0:
                self.check(BadLane, 0, ["a", "b"], [(thing, "a", 1), 1], [], [])
                self.check(BadLane, 0, ["a", "b"], [[1, None, thing], 1], [], [])
            if thing is not None and thing not in ("a", "b"):
                self.check(BadLane, 0, ["a", "b"], [(0, thing, 1)], [], [])
        self.check(BadLane, 0, [], [(0, "a", 1)], [], [])
        self.check(BadLane, 2, ["a"], ((0, "a", 1), (0, None, 0), (0, "a"), (0,)), [], [])
        self.check(BadLane, 0, ["a"], [(0, "a", 1, 1)], [], [])
        self.check(BadLane, 0, ["a"], ["0a1"], [], [])

    def test_bad_spots(self):
        for thing in strange_objects():
            if not isinstance(thing, (list, tuple)):
                self.check(BadSpot, 0, ["a"], [], thing, [-1])
                self.check(BadSpot, 2, ["a"], [], [3, 3], thing)
                self.check(BadSpot, 0, ["a"], [], [], thing)
            if not isinstance(thing, int) or isinstance(thing, bool) or thing < 0:
                self.check(BadSpot, 1, ["a"], [], [0, thing, -1], None)
                self.check(BadSpot, 3, ["a"], [], (0, 1), [5, thing, thing])
                self.check(BadSpot, 0, ["a"], [], [], (thing,))


if __name__ == "__main__":
    unittest.main()
