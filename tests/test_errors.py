"""[3], [4]: the errors, and what the interface lists of the files that stand."""

import inspect
import unittest

from rowsintime import changes, closing, errors, pieces, points, rows, tables
from tests.helper import strange_objects

PARAMETERS = {
    "BadNames": "index", "BadBound": "thing", "NoName": "name", "SameName": "name", "UnlikeNames": "",
    "Empty": "ring", "BadMost": "name", "BadTable": "index", "BadSignals": "index", "BadLane": "index",
    "BadSpot": "index", "UnlikeSignals": "", "BadNumber": "thing", "BadRow": "index", "BadClocks": "index",
    "BadPlace": "name", "BadArrow": "index", "BadEnd": "index", "NoPlace": "name", "BadRun": "thing",
    "Unseen": "index", "Unsure": "first second", "BadSignal": "thing", "BadTime": "thing", "Early": "time",
    "Refused": "signal", "Held": "time", "Lacks": "signal", "SameClock": "name", "BadRule": "path",
    "NotPlain": "rule", "NoRow": "", "BadKnown": "key", "NoWay": "", "BadWay": "way", "NoSignal": "thing",
    "BadLooks": "index", "BadTimes": "index", "Looped": "arrows", "BadEntry": "index", "Crossed": "index",
    "BadPath": "thing", "NoArrow": "arrow", "Apart": "", "NoClock": "clock", "NoEntry": "index",
    "NotFresh": "circle", "NoRound": "thing", "BadMean": "mean", "BadText": "thing", "BadName": "name",
    "BadKind": "kind", "TakenKind": "name", "BadThing": "thing", "NotOf": "name", "OnItself": "name",
    "Broken": "name", "Needed": "name other",
}

FUNCTIONS = {
    points: ["is_point(table, thing)", "point(table)", "ring(table)", "is_ring(table, thing)"],
    closing: ["closed(table)", "spread(table, one, other)", "alike(one, other)", "within(one, other)"],
    changes: ["cut(table, one, other, bound)", "later(table)", "earlier(table)", "begun(table, names)",
              "without(table, names)", "both(one, other)", "over(one, other)", "beyond(table, most)"],
    pieces: ["rest(one, other)", "outside(one, others)", "joined(one, other)", "lean(table)"],
    rows: ["parting(one, other)"],
}

METHODS = {
    tables.Table: ["names(self)", "bound(self, one, other)", "bounds(self)", "__len__(self)", "__eq__(self, other)",
                   "__init__(self, names, bounds)"],
    rows.Rows: ["__init__(self, signals, lanes, firsts, ends)", "signals(self)", "least(self)", "first(self)",
                "is_within(self, other)", "many(self)", "count(self, n)", "listed(self, n)", "begun(self)",
                "behind(self, row)", "__contains__(self, thing)", "__eq__(self, other)", "__and__(self, other)",
                "__or__(self, other)", "__sub__(self, other)", "__xor__(self, other)", "__invert__(self)"],
}


class ErrorsTest(unittest.TestCase):
    def test_clock_error(self):
        self.assertEqual(errors.ClockError.__bases__, (ValueError,))
        self.assertIsInstance(errors.ClockError(), ValueError)

    def test_all_errors_stand_directly_under_clock_error(self):
        for name in PARAMETERS:
            self.assertEqual(getattr(errors, name).__bases__, (errors.ClockError,), name)
        found = [name for name in vars(errors) if isinstance(vars(errors)[name], type)]
        self.assertEqual(sorted(found), sorted(list(PARAMETERS) + ["ClockError"]))

    def test_errors_keep_the_very_objects(self):
        for name, listed in PARAMETERS.items():
            words = listed.split()
            for thing in strange_objects():
                passed = [[thing] for _ in words]
                by_place = getattr(errors, name)(*passed)
                by_name = getattr(errors, name)(**dict(zip(words, passed)))
                for word, kept in zip(words, passed):
                    self.assertIs(getattr(by_place, word), kept)
                    self.assertIs(getattr(by_name, word), kept)
                if words:
                    self.assertIs(getattr(getattr(errors, name)(*[thing] * len(words)), words[0]), thing)

    def test_errors_take_just_their_parameters(self):
        for name, listed in PARAMETERS.items():
            words = listed.split()
            if words:
                self.assertRaises(TypeError, getattr(errors, name), *words[1:])
                self.assertRaises(TypeError, getattr(errors, name), *words, 1)

    def test_functions_are_defined_where_they_are_listed(self):
        for module, listed in FUNCTIONS.items():
            for line in listed:
                name = line[:line.index("(")]
                found = getattr(module, name)
                self.assertEqual(found.__module__, module.__name__)
                self.assertEqual(name + str(inspect.signature(found)), line)

    def test_methods_stand_in_their_class(self):
        for cls, listed in METHODS.items():
            for line in listed:
                name = line[:line.index("(")]
                self.assertIn(name, vars(cls))
                self.assertEqual(name + str(inspect.signature(vars(cls)[name])), line)
        self.assertEqual(tables.Table.__module__, "rowsintime.tables")
        self.assertEqual(rows.Rows.__module__, "rowsintime.rows")


if __name__ == "__main__":
    unittest.main()
