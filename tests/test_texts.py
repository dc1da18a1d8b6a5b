"""[86] to [91]: texts of tables, watchers, timed rows, entries of logs and rules."""

import random
import time
import unittest

from rowsintime.errors import BadText
from rowsintime.tables import Table
from rowsintime.texts import (
    read_log, read_row, read_rule, read_table, read_watcher, write_log, write_row, write_rule, write_table, write_watcher)
from rowsintime.watchers import Watcher
from tests.helper import (
    as_lists, error_of, fault, pair_of, random_row, random_rule, random_table, random_watcher, strange_objects)
from tests.test_going import doors
from tests.test_toldrows import as_told

READERS = [read_table, read_watcher, read_row, read_log, read_rule]

DOORS = """clocks x
place shut
place open x upto 3
arrow shut door open new x
arrow open bell shut if x above 1
ends shut
"""

# Watchers and tables whose names are words of their lines.
WORDY = """clocks if new from
place place if below 0 from upto 12
place ends
arrow place . ends if if above 1 if new from 0 new new new if
arrow ends arrow place new from
arrow ends bound ends
ends ends place
"""


def random_entries(rolls):
    now, entries = 0, []
    for _ in range(rolls.randint(0, 7)):
        now += rolls.choice([0, 1, 5, 10 ** 11])
        entries.append(rolls.choice([("a", now), ("saw", None), (None, now)]))
    return entries


def bent(rolls, text):
    """A text with a little of it left out, put in, doubled or told otherwise."""
    lines = text.split("\n")
    at = rolls.randrange(len(lines))
    words = lines[at].split(" ")
    kind = rolls.randrange(9)
    if kind == 0:
        lines.pop(at)
    elif kind == 1:
        lines.insert(at, rolls.choice(lines))
    elif kind == 2:
        lines[at] = " ".join(words[:-1])
    elif kind == 3:
        lines[at] = " ".join(words + [rolls.choice(["x", "3", "", "."])])
    elif kind == 4:
        words[rolls.randrange(len(words))] = rolls.choice(["x", "03", "-0", "-1", "", ".", "upto", "below", "1/2", "2/4", "3/1", "X"])
        lines[at] = " ".join(words)
    elif kind == 5:
        lines[at] = lines[at] + rolls.choice([" ", "\t", "\r", "  "])
    elif kind == 6:
        other = rolls.randrange(len(lines))
        lines[at], lines[other] = lines[other], lines[at]
    elif kind == 7:
        return text[:-1]
    else:
        spot = rolls.randrange(len(text) + 1)
        return text[:spot] + rolls.choice(["\n", " ", "0", "z", "-", "\u00e9", "\u0663"]) + text[spot:]
    return "\n".join(lines)


class BothWaysTest(unittest.TestCase):
    def check(self, write, read, thing, like=None):
        """What is read of what was written is equal, and written again is the same text."""
        text = write(thing)
        self.assertIsInstance(text, str)
        self.assertTrue(text == "" or text.endswith("\n"))
        found = read(text)
        self.assertEqual(found, thing if like is None else like)
        self.assertEqual(write(found), text)
        return text

    def check_bent(self, rolls, write, read, text):
        """A bent text is refused, or just what is written of something else."""
        other = bent(rolls, text)
        error = error_of(lambda: read(other))
        if error is None:
            self.assertEqual(write(read(other)), other)
            return 0
        self.assertIsInstance(error, BadText)
        self.assertIs(error.thing, other)
        return 1

    def test_tables(self):
        rolls = random.Random(1)
        refused, texts = 0, {}
        for _ in range(200):
            table = random_table(rolls, rolls.sample(["a", "b", "names", "bound", "upto"], rolls.randint(0, 4)), -20, 20)
            text = self.check(write_table, read_table, table)
            self.assertEqual(texts.setdefault(text, table), table)
            refused += self.check_bent(rolls, write_table, read_table, text)
        self.assertGreater(refused, 100)

    def test_watchers(self):
        rolls = random.Random(2)
        refused, texts = 0, {}
        for _ in range(200):
            watcher = random_watcher(rolls, clocks=rolls.randint(0, 3), places=rolls.randint(1, 4), most=12, unseen=0.2)
            text = self.check(write_watcher, read_watcher, watcher)
            self.assertEqual(texts.setdefault(text, watcher), watcher)
            refused += self.check_bent(rolls, write_watcher, read_watcher, text)
        self.assertGreater(refused, 100)

    def test_rows(self):
        rolls = random.Random(3)
        refused = 0
        for _ in range(200):
            row = random_row(rolls, ["a", "at", "saw"], rolls.randint(0, 6))
            text = self.check(write_row, read_row, row)
            self.assertEqual(write_row(as_lists(row)), text)
            self.assertEqual(write_row([(signal, (3 * top, 3 * bottom)) for signal, (top, bottom) in row]), text)
            refused += self.check_bent(rolls, write_row, read_row, text)
        self.assertGreater(refused, 80)

    def test_entries(self):
        rolls = random.Random(4)
        refused = 0
        for _ in range(200):
            entries = random_entries(rolls)
            text = self.check(write_log, read_log, entries)
            self.assertEqual(write_log(as_lists(entries)), text)
            refused += self.check_bent(rolls, write_log, read_log, text)
        self.assertGreater(refused, 80)

    def test_rules(self):
        rolls = random.Random(5)
        refused, texts = 0, {}
        for _ in range(300):
            rule = random_rule(rolls, ["a", "not", "both", "since", "upto"], depth=4, plain=4, most=99)
            text = self.check(write_rule, read_rule, rule)
            self.assertEqual(texts.setdefault(text, rule), rule)
            self.assertEqual(write_rule(as_lists(rule)), text)
            refused += self.check_bent(rolls, write_rule, read_rule, text)
        self.assertGreater(refused, 150)

    def test_other_things_have_other_texts(self):
        tables = [Table([], {}), Table(["a"], {}), Table(["a", "b"], {}), Table(["b", "a"], {}), Table(["a"], {("a", ""): ("upto", 0)}),
                  Table(["a"], {("", "a"): ("upto", 0)}), Table(["a"], {("a", ""): ("below", 0)}), Table(["a"], {("a", ""): ("upto", 1)})]
        self.assertEqual(len({write_table(table) for table in tables}), len(tables))


class FormTest(unittest.TestCase):
    def test_tables(self):
        table = Table(["a", "b"], {("b", ""): None, ("b", "a"): ["below", -10], ("", "b"): ("upto", 0), ("a", "b"): ("upto", 3)})
        text = "names a b\nbound . b upto 0\nbound a b upto 3\nbound b a below -10\n"
        self.assertEqual(write_table(table=table), text)
        self.assertEqual(read_table(text=text), table)
        self.assertEqual(write_table(Table([], {})), "names\n")
        self.assertEqual(read_table("names\n"), Table([], {}))

    def test_watchers(self):
        self.assertEqual(write_watcher(watcher=doors()), DOORS)
        self.assertEqual(read_watcher(text=DOORS), doors())
        wordy = read_watcher(WORDY)
        self.assertEqual(wordy.arrows()[0], ("place", None, (("if", "above", 1), ("new", "from", 0)), ("new", "if"), "ends"))
        self.assertEqual(wordy.limit("place"), {"if": ("below", 0), "from": ("upto", 12)})
        self.assertEqual(write_watcher(as_told(wordy)), WORDY)
        least = Watcher([], {"p": {}}, [], [])
        self.assertEqual(write_watcher(least), "clocks\nplace p\nends\n")
        self.assertEqual(read_watcher("clocks\nplace p\nends\n"), least)

    def test_cuts_and_clocks_stand_as_they_were_passed(self):
        watcher = Watcher(["x", "y"], {"p": {"y": ("upto", 3), "x": ("below", 1)}},
                          [("p", "a", [("y", "from", 1), ("x", "upto", 2), ("y", "from", 1)], ["y", "x"], "p")], ["p"])
        text = ("clocks x y\nplace p x below 1 y upto 3\n"
                "arrow p a p if y from 1 if x upto 2 if y from 1 new y new x\nends p\n")
        self.assertEqual(write_watcher(watcher), text)
        self.assertEqual(read_watcher(text).arrows(), watcher.arrows())

    def test_rows_and_entries(self):
        self.assertEqual(write_row(row=[("door", (5, 2)), ["bell", [6, 2]]]), "at 5/2 door\nat 3 bell\n")
        self.assertEqual(read_row(text="at 5/2 door\nat 3 bell\n"), [("door", (5, 2)), ("bell", (3, 1))])
        self.assertEqual((write_row([]), read_row(""), write_log(()), read_log("")), ("", [], "", []))
        entries = [("lamp", 4), ("lamp", None), (None, 4)]
        self.assertEqual(write_log(entries=entries), "saw lamp 4\nsaw lamp .\nsaw . 4\n")
        self.assertEqual(read_log(text="saw lamp 4\nsaw lamp .\nsaw . 4\n"), entries)
        for pair in read_log("saw . 4\n") + read_row("at 3 bell\n"):
            self.assertIsInstance(pair, tuple)

    def test_rules(self):
        rule = ("both", ("since", "bell", "door", "upto", 3), ("not", ("soon", "bell", "lamp", "below", 5)))
        text = "both since bell door upto 3 not soon bell lamp below 5\n"
        self.assertEqual(write_rule(rule=rule), text)
        self.assertEqual(read_rule(text=text), rule)

    def test_numbers_of_any_length(self):
        for number in (0, 9, 10, 10 ** 12 - 1, 10 ** 50 - 1, 10 ** 50, 10 ** 50 + 7, 10 ** 100 + 10 ** 49, 7 ** 400, 10 ** 5000 + 3):
            table = Table(["a"], {("a", ""): ("upto", number), ("", "a"): ("upto", -number)})
            text = write_table(table)
            self.assertEqual(read_table(text), table)
            if number < 10 ** 4000:
                self.assertEqual(text, f"names a\nbound . a upto {-number}\nbound a . upto {number}\n")


class RefusedTest(unittest.TestCase):
    def refused(self, read, texts):
        for text in texts:
            error = error_of(lambda: read(text))
            self.assertIsInstance(error, BadText, repr(text))
            self.assertIs(error.thing, text)

    def test_any_objects(self):
        for read in READERS:
            things = strange_objects() + [b"names\n", "\n", " \n", "names", "nonsense\n", "\n\n"]
            self.refused(read, [thing for thing in things if thing != "" or read not in (read_row, read_log)])

    def test_tables(self):
        self.refused(read_table, [
            "names a a\n", "names A\n", "names a \n", " names a\n", "names  a\n", "names a\n\n", "names a", "names a\r\n",
            "names .\n", "bound a . upto 1\n", "names a\nbound a . upto 01\n", "names a\nbound a . upto -0\n",
            "names a\nbound a . upto 1.0\n", "names a\nbound a . upto +1\n", "names a\nbound a . from 1\n",
            "names a\nbound a . upto\n", "names a\nbound a . upto 1 2\n", "names a\nbound a b upto 1\n",
            "names a\nbound a a upto 1\n", "names a\nbound . . upto 1\n", "names a\nbound a  upto 1\n",
            "names a\nbound a . upto 1\nbound . a upto 1\n", "names a\nbound a . upto 1\nbound a . upto 1\n",
            "names a\nbound a . upto 1\nbound a . upto 2\n", "names a\nlimit a . upto 1\n", "names a\nbound a . upto 1/1\n",
            "names a\nbound a . upto \u0663\n", "names a\nnames a\n", "names a\nbound a . upto -\n", "names a\nbound a . upto --1\n"])

    def test_watchers(self):
        self.refused(read_watcher, [
            DOORS[:-1], DOORS + "\n", DOORS + DOORS, DOORS.replace("clocks x\n", ""), DOORS.replace("ends shut\n", ""),
            DOORS.replace("place shut\n", ""), DOORS.replace("place shut\n", "place shut\nplace shut\n"), "clocks\nends\n",
            DOORS.replace("upto 3", "upto -3"), DOORS.replace("upto 3", "from 3"), DOORS.replace("upto 3", "upto"),
            DOORS.replace("place open x", "place open y"), DOORS.replace("new x", "new x new x"), DOORS.replace("new x", "new"),
            DOORS.replace("new x", "new y"), DOORS.replace("new x", "old x"), DOORS.replace("if x above 1", "if x above"),
            DOORS.replace("if x above 1", "if x above 1 2"), DOORS.replace("if x above 1", "new x if x above 1"),
            DOORS.replace("arrow open bell", "arrow open"), DOORS.replace("arrow open bell", "arrow none bell"),
            DOORS.replace("ends shut", "ends shut shut"), DOORS.replace("ends shut", "ends x"), DOORS.replace("bell", "Bell"),
            DOORS.replace("ends shut\n", "ends shut\nplace q\n"), DOORS.replace("place shut", "place"), "clocks x\n", "clocks x\nends\n",
            "ends\n", "clocks .\nplace p\nends\n", DOORS.replace("above 1", "above 01"), "clocks x\nplace p x upto 1 x upto 2\nends\n",
            "clocks x y\nplace p y upto 1 x upto 2\nends\n"])
        lines = DOORS.split("\n")
        self.refused(read_watcher, ["\n".join(lines[:2] + [lines[3], lines[2]] + lines[4:])])

    def test_rows_and_entries(self):
        self.refused(read_row, ["at 1 a", "at 1 a b\n", "at 1\n", "at a 1\n", "at 2/4 a\n", "at 2/1 a\n", "at 0/3 a\n", "at -1 a\n",
                                "at 1/0 a\n", "at 1/-2 a\n", "at /2 a\n", "at 1/ a\n", "at 1/2/3 a\n", "at 1 A\n", "at 1 .\n", "at . a\n",
                                "at 2 a\nat 1 a\n", "at 2 a\n\n", "saw a 2\n", "at 02 a\n", "at 1/02 a\n"])
        self.refused(read_log, ["saw a 1", "saw a\n", "saw a 1 2\n", "saw . .\n", "saw a -1\n", "saw a 1/2\n", "saw A 1\n", "saw a 2\nsaw . 1\n",
                                "saw a 01\n", "at 1 a\n", "saw 1 a\n", "saw a 2\nsaw a .\nsaw a 1\n", "saw  1\n"])

    def test_rules(self):
        self.refused(read_rule, [
            "", "\n", "since a b upto 3", "since a b upto 3\n\n", "since a b upto 3 \n", "since a b upto\n", "since a b upto 3 4\n",
            "since a b upto -3\n", "since a b up 3\n", "soon a b from 3\n", "since A b upto 3\n", "not\n", "not not\n",
            "both since a b upto 3\n", "not since a b upto 3 since a b upto 3\n", "neither since a b upto 3\n",
            "since a b upto 03\n", "since a b upto 3\nsince a b upto 3\n", "not  since a b upto 3\n", "a b c\n", "upto 3\n"])


class ErrorsTest(unittest.TestCase):
    def test_rows(self):
        self.assertEqual(fault(lambda: write_row(None)), ("BadRow", 0))
        self.assertEqual(fault(lambda: write_row([("a", (2, 1)), ("a", (1, 1)), None])), ("BadRow", 1))
        self.assertEqual(fault(lambda: write_row([("a", (2, 1)), ("A", (3, 1))])), ("BadRow", 1))

    def test_entries(self):
        self.assertEqual(fault(lambda: write_log("a")), ("BadEntry", 0))
        self.assertEqual(fault(lambda: write_log([("a", 2), (None, 1), None])), ("BadEntry", 1))
        self.assertEqual(fault(lambda: write_log([("a", 2), (None, None)])), ("BadEntry", 1))

    def test_rules(self):
        self.assertEqual(fault(lambda: write_rule(("not", ("not",)))), ("BadRule", (1,)))
        for thing in strange_objects():
            self.assertEqual(fault(lambda: write_rule(thing)), ("BadRule", ()))
            self.assertIn(fault(lambda: write_row([("a", (0, 1)), thing])), [("BadRow", 1)])

    def test_what_is_read_is_the_callers_own(self):
        found = read_row("at 3 bell\n")
        found.clear()
        self.assertEqual(read_row("at 3 bell\n"), [("bell", (3, 1))])


class SoonTest(unittest.TestCase):
    def test_as_long_as_the_limits_let(self):
        places = " ".join(f"x upto {n}" for n in (1,))
        text = "clocks x\n" + "".join(f"place {chr(97 + at)} {places}\n" for at in range(6))
        text += "".join("arrow a b c" + " if x upto 3" * 13 + " new x\n" for _ in range(52)) + "ends a\n"
        row = "".join(f"at {pair_of(n)[0]} a\n" for n in range(60))
        works = [(read_watcher, text), (read_row, row), (read_rule, "not " * 55 + "since a b upto 3\n"),
                 (read_log, "saw a .\n" * 60), (read_table, "names a\n" + "bound a . upto 1\n" * 59)]
        for read, told in works:
            self.assertLessEqual(len(told.split("\n")), 61)
            begin = time.monotonic()
            error = error_of(lambda: read(told))
            self.assertLess(time.monotonic() - begin, 1)
            self.assertEqual(error is None, read is not read_table)


if __name__ == "__main__":
    unittest.main()
