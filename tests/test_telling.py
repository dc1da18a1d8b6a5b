"""[46], [47] and [48], the facts of [49], and the errors and the example of [50]."""

import random
import time
import unittest

from rowsintime.changes import begun, cut, later
from rowsintime.errors import BadSignal, Refused, SameClock
from rowsintime.going import Going
from rowsintime.making import both_tell, either_tell, less_tell, not_told
from rowsintime.pieces import outside, rest
from rowsintime.rows import parting
from rowsintime.rowscome import rows_of
from rowsintime.tables import Table
from rowsintime.telling import (
    alike_list, parting_row, shows_alike, tells, told_alike, told_beyond, told_within)
from rowsintime.watchers import Watcher
from tests.helper import (
    Stands, bent_table, cut_by, error_of, fault, fraction, limit_cuts, pair_of, random_row, random_sure, slightly_changed,
    strange_objects, with_clocks)
from tests.test_lots import at_zero, doors
from tests.test_making import bent, is_told, unseen, up_to
from tests.test_rowscome import doubled

OF_TWO = (told_alike, told_within, parting_row, told_beyond, alike_list)


def parted():
    """The watcher of the example of [27], with another clock, its bell told by two arrows."""
    return Watcher(["y"], {"in": {}, "out": {"y": ("upto", 3)}}, [
        ("in", "door", [], ["y"], "out"), ("out", "bell", [("y", "above", 1), ("y", "below", 2)], [], "in"),
        ("out", "bell", [("y", "from", 2)], [], "in")], ["in"])


def begun_late():
    """A watcher that tells the same as doors(), by a clock begun at bells: its door begins another one."""
    return Watcher(["y", "z"], {"in": {}, "out": {}}, [
        ("in", "door", [], ["y"], "out"), ("out", "bell", [("y", "above", 1), ("y", "upto", 3)], ["z"], "in")], ["in"])


def never_held():
    return Watcher(["y"], {"p": {"y": ("below", 0)}}, [("p", "a", [], ["y"], "p")], ["p"])


def whole(clocks, bounds=None):
    """The table of all worths that keep some bounds."""
    return Table(clocks, {**{("", clock): ("upto", 0) for clock in clocks}, **(bounds or {})})


def branches(watcher, place, signal, table):
    """What a signal leads to from the worths of a table at a place or None: parts, clocks begun, places."""
    if place is None:
        return [(table, (), None)]
    found, left = [], [table]
    for source, heard, cuts, clocks, to in watcher.arrows():
        limits = limit_cuts(watcher, to)
        if source != place or heard != signal or any(one[0] in clocks and one[1:] == ("below", 0) for one in limits):
            continue
        asked = limit_cuts(watcher, place) + list(cuts) + [one for one in limits if one[0] not in clocks]
        part = cut_by(table, asked)
        if part is not None:
            found.append((part, clocks, to))
            left = [piece for other in left for piece in rest(other, part)]
    return found + [(part, (), None) for part in left]


def waited_first(clocks):
    spots = [""] + clocks
    return later(Table(clocks, {(one, other): ("upto", 0) for one in spots for other in spots if one != other}))


def first_place(watcher):
    place = watcher.places()[0]
    return None if ("below", 0) in watcher.limit(place).values() else place


def is_paper(one, other, triples):
    """What [48] asks of a list, looked through by tables."""
    tables = {}
    for place, second, table in triples:
        table = cut_by(table, [])
        if table is not None:
            tables.setdefault((place, second), []).append(table)
    first = waited_first(one.clocks() + other.clocks())
    if outside(first, tables.get((first_place(one), first_place(other)), [])) is not None:
        return False
    for place, second in tables:
        if (place in one.ends()) != (second in other.ends()):
            return False
        for table in tables[place, second]:
            for signal in sorted(set(one.signals()) | set(other.signals())):
                for part, mine, to in branches(one, place, signal, table):
                    for piece, its, behind in branches(other, second, signal, part):
                        stands = later(begun(piece, mine + its))
                        if outside(stands, tables.get((to, behind), [])) is not None:
                            return False
    return True


def split(rolls, triples, most=3):
    """The same list, some of its tables told in two parts."""
    found = []
    for place, second, table in triples:
        if len(table) and rolls.random() < 0.5:
            one, other = rolls.sample([""] + table.names(), 2)
            number = rolls.randint(-most, most)
            parts = [cut(table, one, other, ("upto", number)), cut(table, other, one, ("below", -number))]
            found += [(place, second, part) for part in parts if part is not None]
        else:
            found.append((place, second, table))
    return found


def bent_triples(rolls, triples, one, other):
    """A list of triples with one left out, or its table bent, or moved to other places, or all mixed up."""
    triples = list(triples)
    at = rolls.randrange(len(triples))
    place, second, table = triples[at]
    kind = rolls.randrange(6)
    if kind == 0:
        triples.pop(at)
    elif kind in (1, 2, 3) and len(table):
        triples[at] = [place, second, bent_table(rolls, table)]
    elif kind == 4:
        triples.append((rolls.choice(one.places() + [None]), rolls.choice(other.places() + [None]), table))
    else:
        rolls.shuffle(triples)
    return triples


class ExampleTest(unittest.TestCase):
    def test_the_example(self):
        one, other = up_to(), up_to("below")
        self.assertIs(told_within(other, one), True)
        self.assertIs(told_within(one, other), False)
        self.assertIs(told_alike(one, other), False)
        self.assertEqual(parting_row(one, other), [("a", (2, 1))])
        self.assertEqual(parting_row(other, one), [("a", (2, 1))])
        self.assertEqual(told_beyond(one, other), [("a", (2, 1))])
        self.assertIsNone(told_beyond(other, one))
        self.assertIsNone(alike_list(one, with_clocks(other, ["y"])))
        made = not_told(one, ["a"])
        for row, expected in (([], True), ([("a", (2, 1))], False), ([("a", (17, 8))], True), ([("a", (1, 1))] * 2, True)):
            self.assertIs(tells(made, row), expected)

    def test_by_name(self):
        self.assertIs(tells(row=[("a", (1, 1))], watcher=up_to()), True)
        self.assertIs(told_alike(other=up_to(), one=up_to()), True)
        self.assertIs(told_within(other=up_to(), one=up_to("below")), True)
        self.assertIsNone(parting_row(other=up_to(), one=up_to()))
        self.assertIsNone(told_beyond(other=up_to(), one=up_to("below")))
        paper = alike_list(other=parted(), one=doors())
        self.assertIs(shows_alike(thing=paper, other=parted(), one=doors()), True)


class TellsTest(unittest.TestCase):
    def test_at_an_end_alone(self):
        row = [("door", (1, 1)), ("bell", (3, 1))]
        self.assertIs(tells(doors(), []), True)
        self.assertIs(tells(doors(), row), True)
        self.assertIs(tells(doors(), row[:1]), False)
        self.assertIs(tells(doors(), [["door", [2, 2]], ["bell", (6, 2)]]), True)
        self.assertIs(tells(doors(), [("door", (1, 1)), ("bell", (2, 1))]), False)
        self.assertIs(tells(doors(), row + [("door", (3, 1))]), False)
        self.assertIs(tells(doors(), row + [("door", (3, 1)), ("bell", (5, 1))]), True)

    def test_what_was_refused_is_never_told_again(self):
        watcher = Watcher([], {"p": {}, "q": {}}, [("p", "a", [], [], "p"), ("q", "b", [], [], "p")], ["p"])
        self.assertIs(tells(watcher, [("a", (0, 1))]), True)
        for row in ([("b", (0, 1))], [("b", (0, 1)), ("a", (0, 1))], [("a", (0, 1)), ("lamp", (0, 1)), ("a", (1, 1))]):
            self.assertIs(tells(watcher, row), False)

    def test_a_first_place_that_cannot_be_held(self):
        for row in ([], [("a", (0, 1))]):
            self.assertIs(tells(never_held(), row), False)

    def test_bad_rows(self):
        for thing in strange_objects():
            expected = None if thing in ([], ()) else ("BadRow", 0)
            self.assertEqual(fault(lambda: tells(doors(), thing)), expected)
            self.assertEqual(fault(lambda: tells(doors(), [("lamp", (0, 1)), thing, 3])), ("BadRow", 1))
        self.assertEqual(fault(lambda: tells(doors(), [("door", (2, 1)), ("bell", (1, 1))])), ("BadRow", 1))
        self.assertEqual(fault(lambda: tells(unseen(), None)), ("Unseen", 1))
        self.assertEqual(fault(lambda: tells(bent(), None)), ("Unsure", 1, 2))

    def test_rows_made_up(self):
        rolls = random.Random(46)
        found = {True: 0, False: 0}
        for _ in range(150):
            watcher = random_sure(rolls, clocks=2, places=3, arrows=7, cuts=2, most=2, limits=0.2)
            for _ in range(10):
                row = random_row(rolls, watcher.signals(), rolls.randint(0, 4), 2)
                expected = is_told(watcher, row)
                found[expected] += 1
                self.assertIs(tells(watcher, row), expected)
        self.assertGreater(min(found.values()), 100)


class ErrorTest(unittest.TestCase):
    def test_those_of_the_one_ahead_of_those_of_the_other(self):
        for work in OF_TWO + (lambda one, other: shows_alike(one, other, None),):
            self.assertEqual(fault(lambda: work(unseen(), bent())), ("Unseen", 1))
            self.assertEqual(fault(lambda: work(bent(), unseen())), ("Unsure", 1, 2))
            self.assertEqual(fault(lambda: work(doors(), unseen())), ("Unseen", 1))
            self.assertEqual(fault(lambda: work(doors(), bent())), ("Unsure", 1, 2))

    def test_clocks_of_one_name(self):
        one = Watcher(["x", "y", "z"], {"p": {}}, [], [])
        other = Watcher(["a", "z", "y"], {"p": {}}, [], [])
        for work in (alike_list, lambda first, second: shows_alike(first, second, None)):
            self.assertEqual(fault(lambda: work(one, other)), ("SameClock", "y"))
            self.assertEqual(fault(lambda: work(other, one)), ("SameClock", "z"))
            self.assertIsInstance(error_of(lambda: work(doors(), doors())), SameClock)
            self.assertEqual(fault(lambda: work(bent(), bent())), ("Unsure", 1, 2))
            self.assertEqual(fault(lambda: work(up_to(), bent())), ("Unsure", 1, 2))
        plain = Watcher([], {"p": {}}, [("p", "a", [], [], "p")], ["p"])
        self.assertIs(shows_alike(plain, plain, alike_list(plain, plain)), True)
        for work in (told_alike, told_within):
            self.assertIs(work(doors(), doors()), True)
        for work in (parting_row, told_beyond):
            self.assertIsNone(work(doors(), doors()))


class AlikeTest(unittest.TestCase):
    def check_alike(self, one, other):
        self.assertIs(told_alike(one, other), True)
        self.assertIs(told_within(one, other), True)
        self.assertIs(told_within(other, one), True)
        for first, second in ((one, other), (other, one)):
            self.assertIsNone(parting_row(first, second))
            self.assertIsNone(told_beyond(first, second))
            paper = alike_list(first, second)
            self.assertIs(shows_alike(first, second, paper), True)
            self.assertTrue(is_paper(first, second, paper))

    def check_unlike(self, one, other, many):
        self.assertIs(told_alike(one, other), False)
        self.assertIsNone(alike_list(one, other))
        row = parting_row(one, other)
        self.assertEqual(len(row), many)
        self.assertNotEqual(is_told(one, row), is_told(other, row))

    def test_an_arrow_told_in_two_parts(self):
        self.check_alike(doors(), parted())

    def test_clocks_that_tell_nothing_more(self):
        self.check_alike(doors(), begun_late())

    def test_limits_told_as_cuts(self):
        # The limit of the open place counts for its bell alone: no other signal goes there.
        cuts = Watcher(["y"], {"in": {}, "out": {}}, [
            ("in", "door", [], ["y"], "out"), ("out", "bell", [("y", "above", 1), ("y", "upto", 3)], [], "in")], ["in"])
        self.check_alike(doors(), cuts)

    def test_nothing_told(self):
        nothing = Watcher([], {"p": {}}, [], [])
        dead = Watcher(["y"], {"p": {}}, [("p", "a", [("y", "below", 3)], [], "p")], [])
        for other in (dead, never_held(), with_clocks(never_held(), ["z"])):
            self.check_alike(nothing, other)
        self.check_unlike(nothing, Watcher([], {"p": {}}, [], ["p"]), 0)
        self.check_unlike(with_clocks(up_to(), ["z"]), never_held(), 1)

    def test_a_signal_that_one_does_not_know(self):
        one = Watcher([], {"p": {}, "q": {}}, [("p", "a", [], [], "p"), ("p", "b", [], [], "q")], ["p"])
        other = Watcher([], {"p": {}}, [("p", "a", [], [], "p")], ["p"])
        self.check_alike(one, other)
        self.assertEqual(one.signals(), ["a", "b"])
        self.check_unlike(Watcher([], {"p": {}}, [("p", "a", [], [], "p"), ("p", "b", [], [], "p")], ["p"]), other, 1)

    def test_unlike_at_a_time_between_integers_alone(self):
        def watcher(clock, last, word):
            cuts = [(clock, "above", 0), (clock, word, 1)]
            return Watcher([clock], {"p": {}, "q": {}, "r": {}}, [
                ("p", "a", [], [clock], "q"), ("q", "b", cuts, [], "r"), ("r", "c", [(clock, last, 1)], [], "r")], ["r"])
        one, other = watcher("x", "below", "below"), watcher("y", "upto", "below")
        self.check_unlike(one, other, 3)
        self.assertEqual(told_beyond(other, one)[0][0], "a")
        self.assertIsNone(told_beyond(one, other))
        row = told_beyond(watcher("x", "upto", "upto"), other)
        self.assertEqual([signal for signal, _ in row], ["a", "b"])
        self.assertEqual(fraction(row[1][1]) - fraction(row[0][1]), 1)

    def test_time_that_stands_still(self):
        def still(clock, word, number):
            return Watcher([clock], {"p": {clock: (word, number)}, "q": {}}, [
                ("p", "a", [], [], "p"), ("p", "b", [], [], "q")], ["p", "q"])
        self.check_unlike(still("x", "upto", 0), still("y", "below", 1), 1)
        row = told_beyond(still("y", "below", 1), still("x", "upto", 0))
        self.assertTrue(0 < fraction(row[0][1]) < 1)
        rings = Watcher(["y"], {"p": {"y": ("upto", 0)}, "r": {"y": ("upto", 0)}, "q": {}}, [
            ("p", "a", [], ["y"], "r"), ("r", "a", [("y", "upto", 4)], [], "p"), ("p", "b", [], [], "q"), ("r", "b", [], [], "q"),
            ("r", "c", [("y", "above", 0)], [], "q")], ["p", "q", "r"])
        # An arrow that begins y at 0 lets nothing go later: y was 0 there anyway.
        self.check_alike(still("x", "upto", 0), rings)

    def test_a_row_that_ends_is_asked_alone(self):
        # Its limit runs out, but the row has ended: it is told whatever comes to pass then.
        one = Watcher(["x"], {"p": {}, "q": {"x": ("upto", 1)}}, [("p", "a", [], ["x"], "q")], ["q"])
        other = Watcher(["y"], {"p": {}, "q": {}}, [("p", "a", [], ["y"], "q")], ["q"])
        self.check_alike(one, other)
        late = Watcher(["y"], {"p": {}, "q": {"y": ("upto", 1)}}, [("p", "a", [], [], "q")], ["q"])
        self.check_unlike(one, late, 1)
        self.assertIs(told_within(late, one), True)


class PaperTest(unittest.TestCase):
    def paper(self):
        """A list made by hand: doors() and parted() go the same way, their clocks are alike there."""
        together = {("x", "y"): ("upto", 0), ("y", "x"): ("upto", 0)}
        return [("shut", "in", whole(["x", "y"], together)), ("open", "out", whole(["x", "y"], together)),
                (None, None, whole(["x", "y"], together))]

    def shows(self, thing):
        return shows_alike(doors(), parted(), thing)

    def test_lists_and_tuples_alike(self):
        paper = self.paper()
        self.assertTrue(is_paper(doors(), parted(), paper))
        for thing in (paper, tuple(paper), [list(triple) for triple in paper], paper[::-1], paper + paper):
            self.assertIs(self.shows(thing), True)

    def test_a_told_one(self):
        paper = alike_list(doors(), parted())
        self.assertIsInstance(paper, list)
        for place, second, table in paper:
            self.assertIn((place, second), [("shut", "in"), ("open", "out"), (None, None)])
            self.assertEqual(table.names(), ["x", "y"])
        self.assertIs(self.shows(paper), True)
        self.assertEqual(repr([triple[:2] for triple in paper]), repr([tuple(triple[:2]) for triple in paper]))
        self.assertEqual(paper, alike_list(doors(), parted()))

    def test_bent_ones(self):
        paper = self.paper()
        for at in range(3):
            self.assertIs(self.shows(paper[:at] + paper[at + 1:]), False)
            place, second, table = paper[at]
            for bounds in ({("x", ""): ("upto", 3)}, {("", "x"): ("below", 0)}, {("x", "y"): ("below", 0)}):
                tight = Table(["x", "y"], {**table.bounds(), **bounds})
                self.assertIs(self.shows(paper[:at] + [(place, second, tight)] + paper[at + 1:]), False)
        self.assertIs(self.shows([]), False)

    def test_greater_ones_as_far_as_all_holds(self):
        paper = self.paper()
        # Behind a refusal nothing is told any more, so all worths are well there; not so at the open places.
        self.assertIs(self.shows(paper[:2] + [(None, None, whole(["x", "y"]))]), True)
        self.assertIs(self.shows(paper[:1] + [("open", "out", whole(["x", "y"]))] + paper[2:]), False)
        self.assertIs(self.shows([("shut", "in", whole(["x", "y"]))] + paper[1:]), False)
        cleared = [("shut", "in", whole(["x", "y"])), paper[1], (None, None, whole(["x", "y"]))]
        self.assertIs(self.shows(cleared), True)

    def test_triples_of_no_use_are_let(self):
        paper = self.paper()
        empty = Table(["x", "y"], {("x", ""): ("below", 0), ("", "x"): ("upto", 0)})
        below = Table(["x", "y"], {("y", ""): ("upto", -1)})
        for table in (empty, below):
            for places in (("shut", "in"), ("shut", "out"), (None, "in"), ("open", None), ("shut", None)):
                self.assertIs(self.shows(paper + [places + (table,)]), True)
        # A triple that nothing leads to: what it leads to has to be in the list all the same.
        self.assertIs(self.shows(paper + [("open", None, paper[2][2])]), False)
        self.assertIs(self.shows(paper + [("shut", None, paper[2][2])]), False)
        never = Watcher([], {"p": {}, "q": {}}, [("p", "a", [], [], "p"), ("q", "a", [], [], "q")], ["p"])
        plain = Watcher([], {"r": {}}, [("r", "a", [], [], "r")], ["r"])
        stands = [("p", "r", whole([]))]
        self.assertIs(shows_alike(never, plain, stands), True)
        for more, expected in ((("q", None), True), ((None, None), True), (("q", "r"), False), (("p", None), False),
                               ((None, "r"), False)):
            self.assertIs(shows_alike(never, plain, stands + [more + (whole([]),)]), expected)

    def test_one_stand_in_one_triple_another_in_another_one(self):
        paper = self.paper()
        parts = []
        for place, second, table in paper:
            for pair, bound in ((("x", ""), ("upto", 2)), (("", "x"), ("below", -2))):
                parts.append((place, second, Table(["x", "y"], {**table.bounds(), pair: bound})))
        self.assertIs(self.shows(parts), True)
        for at in range(len(parts)):
            self.assertIs(self.shows(parts[:at] + parts[at + 1:]), False)

    def test_worths_below_zero_count_for_nothing(self):
        together = {("x", "y"): ("upto", 0), ("y", "x"): ("upto", 0)}
        paper = [(place, second, Table(["x", "y"], together)) for place, second, _ in self.paper()]
        self.assertIs(self.shows(paper), True)
        # With y upto 0 the one would have worths below 0 from which no arrow goes, were they counted.
        one = Watcher(["x"], {"p": {}}, [("p", "a", [("x", "from", 0)], [], "p")], ["p"])
        other = Watcher(["y"], {"p": {}}, [("p", "a", [], [], "p")], ["p"])
        self.assertIs(shows_alike(one, other, [("p", "p", Table(["x", "y"], {}))]), True)

    def test_a_first_place_that_cannot_be_held(self):
        one, other = with_clocks(never_held(), ["x"]), Watcher(["y"], {"p": {}}, [("p", "a", [], [], "p")], [])
        both = whole(["x", "y"])
        self.assertIs(shows_alike(one, other, [(None, "p", both)]), True)
        self.assertIs(shows_alike(one, other, [("p", "p", both)]), False)
        self.assertIs(shows_alike(one, never_held(), [(None, None, both)]), True)
        self.assertIs(shows_alike(other, one, [("p", None, Table(["y", "x"], {}))]), True)
        self.assertEqual([triple[:2] for triple in alike_list(one, other)], [(None, "p")])

    def test_waiting_is_not_bounded_by_limits(self):
        # Behind the limit of p every signal is refused: so the list has to have all later worths, too.
        one = Watcher(["x"], {"p": {"x": ("upto", 1)}}, [("p", "a", [], ["x"], "p")], ["p"])
        other = Watcher(["y"], {"p": {}}, [("p", "a", [("y", "upto", 1)], ["y"], "p")], ["p"])
        together = {("x", "y"): ("upto", 0), ("y", "x"): ("upto", 0)}
        end = (None, None, whole(["x", "y"]))
        self.assertIs(shows_alike(one, other, [("p", "p", whole(["x", "y"], together)), end]), True)
        held = whole(["x", "y"], {**together, ("x", ""): ("upto", 1)})
        self.assertIs(shows_alike(one, other, [("p", "p", held), end]), False)
        for first, second in ((one, other), (other, one)):
            self.assertIs(shows_alike(first, second, alike_list(first, second)), True)

    def test_any_objects(self):
        paper = self.paper()
        for thing in strange_objects():
            self.assertIs(self.shows(thing), False)
            self.assertIs(self.shows([thing]), False)
            self.assertIs(self.shows(paper + [thing]), False)
            table = paper[0][2]
            is_place = thing is None
            self.assertIs(self.shows(paper + [(None, thing, Table(["x", "y"], {("x", ""): ("below", 0)}))]), is_place)
            self.assertIs(self.shows(paper + [(thing, None, Table(["x", "y"], {("x", ""): ("below", 0)}))]), is_place)
            self.assertIs(self.shows(paper + [("shut", "in", thing)]), False)
            self.assertIs(self.shows(paper + [("shut", "in", table, thing)]), False)
        for names in ([], ["x"], ["y"], ["y", "x"], ["x", "y", "z"]):
            self.assertIs(self.shows(paper + [(None, None, at_zero(names))]), False)
        for places in (("in", "shut"), ("late", None), ("shut", "open")):
            self.assertIs(self.shows(paper + [places + (at_zero(["x", "y"]),)]), False)

    def test_nothing_is_changed(self):
        paper = [list(triple) for triple in self.paper()]
        again = [list(triple) for triple in paper]
        self.shows(paper)
        self.assertEqual(paper, again)
        told = alike_list(doors(), parted())
        told.clear()
        self.assertIs(self.shows(alike_list(doors(), parted())), True)


class FactsTest(unittest.TestCase):
    def test_unlike_ones_with_the_same_rows(self):
        one, other = up_to(), up_to("below")
        self.assertIsNone(parting(rows_of(one), rows_of(other)))
        self.assertIs(told_alike(one, other), False)

    def test_rows_of_what_is_told(self):
        rolls = random.Random(491)
        found = {True: 0, False: 0}
        for _ in range(80):
            one = random_sure(rolls, clocks=2, places=3, arrows=6, cuts=2, most=2)
            other = slightly_changed(rolls, one, 2)
            is_alike = told_alike(one, other)
            if is_alike and one.signals() == other.signals():
                self.assertIsNone(parting(rows_of(one), rows_of(other)))
            found[is_alike] += 1
        self.assertGreater(min(found.values()), 5)

    def test_doubled_times(self):
        rolls = random.Random(492)
        found = 0
        for _ in range(80):
            watcher = random_sure(rolls, clocks=2, places=3, arrows=6, cuts=2, most=2, limits=0.2)
            for _ in range(8):
                row = random_row(rolls, watcher.signals(), rolls.randint(1, 3), 2)
                twice = [(signal, pair_of(2 * fraction(now))) for signal, now in row]
                self.assertIs(tells(doubled(watcher), twice), tells(watcher, row))
                found += tells(watcher, row)
        self.assertGreater(found, 50)

    def test_tighter_ones_are_within(self):
        rolls = random.Random(493)
        for _ in range(60):
            watcher = random_sure(rolls, clocks=2, places=3, arrows=6, cuts=2, most=3, limits=0.3)
            arrows, ends = watcher.arrows(), watcher.ends()
            limits = {place: watcher.limit(place) for place in watcher.places()}
            if not arrows:
                continue
            at = rolls.randrange(len(arrows))
            place, signal, cuts, clocks, to = arrows[at]
            more = cuts + (("x", rolls.choice(["from", "above", "upto", "below"]), rolls.randint(0, 3)),)
            tighter = arrows[:at] + [(place, signal, more, clocks, to)] + arrows[at + 1:]
            limit = dict(limits, **{to: dict(limits[to], y=("below", 1))})
            for other in (Watcher(["x", "y"], limits, tighter, ends), Watcher(["x", "y"], limits, arrows[:at], ends),
                          Watcher(["x", "y"], limits, arrows, ends[1:])):
                self.assertIs(told_within(other, watcher), True)
            if limits[to].get("y", ("upto", 9))[1] >= 1:
                self.assertIs(told_within(Watcher(["x", "y"], limit, arrows, ends), watcher), True)

    def test_parting_rows_go_live(self):
        rolls = random.Random(494)
        found = 0
        for _ in range(80):
            one = random_sure(rolls, clocks=2, places=3, arrows=6, cuts=2, most=2)
            other = random_sure(rolls, clocks=1, places=2, arrows=5, cuts=2, most=2, signals="abc")
            row = parting_row(one, other)
            if row is None:
                continue
            found += 1
            self.assertEqual(sum([self.is_told_live(watcher, row) for watcher in (one, other)]), 1)
        self.assertGreater(found, 30)

    def is_told_live(self, watcher, row):
        going = Going(watcher)
        if fault(lambda: going.trial(lambda one: one.wait((0, 1)))) is not None:
            return False
        for signal, now in row:
            error = error_of(lambda: going.hear(signal, now))
            if error is not None:
                self.assertIsInstance(error, Refused if signal in watcher.signals() else BadSignal)
                return False
        return going.place() in watcher.ends()


class ManyTest(unittest.TestCase):
    def check_row(self, row, one, other, is_wanted, many):
        self.assertEqual(None if row is None else len(row), many)
        if row is not None:
            self.assertTrue(all(isinstance(pair, tuple) and isinstance(pair[1], tuple) for pair in row))
            self.assertTrue(is_wanted(is_told(one, row), is_told(other, row)))

    def test_all_regions_tried(self):
        rolls = random.Random(47)
        found = {}
        for _ in range(160):
            one = random_sure(rolls, clocks=rolls.choice([0, 1, 1, 2]), places=3, arrows=7, cuts=2, most=2,
                              limits=rolls.choice([0, 0.3]))
            if rolls.random() < 0.6:
                other = slightly_changed(rolls, one, 2)
            else:
                other = random_sure(rolls, clocks=1, places=2, arrows=5, cuts=2, most=2, signals="bc")
            other = with_clocks(other, ["u", "v"][:len(other.clocks())])
            stands = Stands(one, other)
            unlike = stands.fewest(lambda first, second: first != second)
            beyond = stands.fewest(lambda first, second: first and not second)
            back = stands.fewest(lambda first, second: second and not first)
            self.assertIs(told_alike(one, other), unlike is None)
            self.assertIs(told_within(one, other), beyond is None)
            self.assertIs(told_within(other, one), back is None)
            self.check_row(parting_row(one, other), one, other, lambda first, second: first != second, unlike)
            self.check_row(told_beyond(one, other), one, other, lambda first, second: first and not second, beyond)
            self.check_row(told_beyond(other, one), other, one, lambda first, second: first and not second, back)
            self.assertEqual(unlike, min([many for many in (beyond, back) if many is not None], default=None))
            self.assertEqual(parting_row(one, other), parting_row(one, other))
            paper = alike_list(one, other)
            self.assertIs(paper is None, unlike is not None)
            if paper is not None:
                self.assertIs(shows_alike(one, other, paper), True)
            found[unlike] = found.get(unlike, 0) + 1
        for many in (None, 0, 1, 2):
            self.assertGreater(found[many], 2)

    def test_papers_looked_through_by_tables(self):
        rolls = random.Random(48)
        told = {True: 0, False: 0}
        for _ in range(40):
            one = random_sure(rolls, clocks=rolls.choice([1, 1, 2]), places=3, arrows=6, cuts=2, most=2, limits=0.2)
            other = with_clocks(slightly_changed(rolls, one, 2), ["u", "v"][:len(one.clocks())])
            paper = alike_list(one, other)
            if paper is None:
                continue
            self.assertTrue(is_paper(one, other, paper))
            parts = split(rolls, paper)
            self.assertIs(shows_alike(one, other, parts), True)
            for _ in range(3):
                bent_one = bent_triples(rolls, rolls.choice([paper, parts]), one, other)
                is_well = is_paper(one, other, bent_one)
                told[is_well] += 1
                self.assertIs(shows_alike(one, other, bent_one), is_well)
        self.assertGreater(min(told.values()), 20)

    def test_made_ones(self):
        rolls = random.Random(49)
        for _ in range(25):
            one = random_sure(rolls, clocks=1, places=3, arrows=6, cuts=2, most=2)
            other = random_sure(rolls, clocks=1, places=2, arrows=5, cuts=2, most=2)
            both, either, less = both_tell(one, other), either_tell(one, other), less_tell(one, other)
            for inner, outer in ((both, one), (both, other), (one, either), (other, either), (less, one), (both, either)):
                self.assertIs(told_within(inner, outer), True)
            self.assertIs(told_within(one, other), told_alike(both, one))
            self.assertIs(told_within(one, other), parting_row(either, other) is None)
            beyond = told_beyond(one, other)
            self.assertEqual(beyond is None, told_alike(less, both_tell(less, less)) and rows_of(less).many() == 0)
            if beyond is not None:
                self.assertEqual([tells(watcher, beyond) for watcher in (both, either, less)], [False, True, True])


class SoonTest(unittest.TestCase):
    def test_watchers_as_large_as_can_be(self):
        rolls = random.Random(50)
        for at in range(30):
            one = random_sure(rolls, clocks=2, places=4, arrows=14, cuts=2, most=6, signals="abc", limits=0.1)
            if at % 2:
                other = random_sure(rolls, clocks=2, places=4, arrows=14, cuts=2, most=6, signals="abc", limits=0.1)
            else:
                other = slightly_changed(rolls, one, 6)
            other = with_clocks(other, ["u", "v"])
            for work in OF_TWO:
                begin = time.process_time()
                work(one, other)
                self.assertLess(time.process_time() - begin, 1)

    def test_lists_of_sixty_triples(self):
        rolls = random.Random(51)
        for _ in range(6):
            one = random_sure(rolls, clocks=2, places=4, arrows=12, cuts=1, most=6, signals="abc", limits=0)
            other = with_clocks(one, ["u", "v"])
            together = {("x", "u"): ("upto", 0), ("u", "x"): ("upto", 0), ("y", "v"): ("upto", 0), ("v", "y"): ("upto", 0)}
            table = whole(["x", "y", "u", "v"], together)
            paper = []
            for place in one.places() + [None]:
                parts = [table]
                while len(parts) < 10:
                    part = parts.pop(rolls.randrange(len(parts)))
                    first, second = rolls.sample(["", "x", "y"], 2)
                    number = rolls.randint(-6, 6)
                    found = [cut(part, first, second, ("upto", number)), cut(part, second, first, ("below", -number))]
                    parts += [piece for piece in found if piece is not None]
                paper += [(place, place, part) for part in parts]
            begin = time.process_time()
            self.assertIs(shows_alike(one, other, paper), True)
            self.assertLess(time.process_time() - begin, 1)
            self.assertIs(shows_alike(one, other, paper[10:]), False)


if __name__ == "__main__":
    unittest.main()
