"""The interface: each name stands in its file, with its parameters under their names."""

import importlib
import inspect
import unittest

FUNCTIONS = {
    "points": ["is_point(table, thing)", "point(table)", "ring(table)", "is_ring(table, thing)"],
    "closing": ["closed(table)", "spread(table, one, other)", "alike(one, other)", "within(one, other)"],
    "changes": ["cut(table, one, other, bound)", "later(table)", "earlier(table)", "begun(table, names)",
                "without(table, names)", "both(one, other)", "over(one, other)", "beyond(table, most)"],
    "pieces": ["rest(one, other)", "outside(one, others)", "joined(one, other)", "lean(table)"],
    "rows": ["parting(one, other)"],
    "runs": ["is_run(watcher, thing)", "ended(watcher, run)", "worths(watcher, run)", "heard(watcher, run)",
             "runs(watcher, row)", "takes(watcher, row)", "unsure(watcher)"],
    "lots": ["comes(watcher, place)", "shortest(watcher, place)", "closed_list(watcher)", "is_closed_list(watcher, thing)",
             "shows_never(watcher, place, thing)"],
    "comings": ["times(watcher, place, most)", "earliest(watcher, place)", "run_at(watcher, place, time)",
                "is_stuck(watcher, run)", "stuck(watcher)", "shows_not_by(watcher, place, n, thing)"],
    "rowscome": ["rows_of(watcher)", "begun_rows(watcher)", "run_for(watcher, row)", "row_comes(watcher, row)",
                 "look_through(watcher, row)", "shows_no_row(watcher, row, thing)", "whole_rows(watcher)",
                 "whole_run_for(watcher, row)"],
    "making": ["not_told(watcher, signals)", "both_tell(one, other)", "either_tell(one, other)", "less_tell(one, other)"],
    "telling": ["tells(watcher, row)", "told_alike(one, other)", "told_within(one, other)", "parting_row(one, other)",
                "told_beyond(one, other)", "alike_list(one, other)", "shows_alike(one, other, thing)"],
}

CLASSES = {
    "tables": ["Table(names, bounds)", "names()", "bound(one, other)", "bounds()", "__len__()", "__eq__(other)"],
    "rows": ["Rows(signals, lanes, firsts, ends)", "signals()", "__contains__(thing)", "least()", "__eq__(other)",
             "__and__(other)", "__or__(other)", "__sub__(other)", "__xor__(other)", "__invert__()", "is_within(other)",
             "first()", "many()", "count(n)", "listed(n)", "begun()", "behind(row)"],
    "watchers": ["Watcher(clocks, limits, arrows, ends)", "clocks()", "places()", "arrows()", "ends()", "limit(place)",
                 "signals()", "__eq__(other)"],
    "going": ["Going(watcher)", "hear(signal, time)", "wait(time)", "now()", "place()", "worths()", "run()", "until()",
              "when(signal)", "undo()", "again()", "copy()", "trial(work)"],
}


class InterfaceTest(unittest.TestCase):
    def parts(self, told):
        name, parameters = told.rstrip(")").split("(")
        return name, [parameter for parameter in parameters.split(", ") if parameter]

    def test_functions(self):
        for file, lines in FUNCTIONS.items():
            module = importlib.import_module("rowsintime." + file)
            for line in lines:
                name, parameters = self.parts(line)
                function = getattr(module, name)
                self.assertEqual(function.__module__, module.__name__)
                self.assertEqual(list(inspect.signature(function).parameters), parameters, line)

    def test_classes(self):
        for file, (head, *methods) in CLASSES.items():
            module = importlib.import_module("rowsintime." + file)
            name, parameters = self.parts(head)
            made = getattr(module, name)
            self.assertEqual(made.__module__, module.__name__)
            self.assertEqual(list(inspect.signature(made).parameters), parameters, head)
            for line in methods:
                method, parameters = self.parts(line)
                self.assertIn(method, vars(made))
                self.assertEqual(list(inspect.signature(vars(made)[method]).parameters), ["self"] + parameters, line)


if __name__ == "__main__":
    unittest.main()
