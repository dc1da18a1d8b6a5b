"""The interface: each name stands in its file, with its parameters under their names."""

import importlib
import inspect
import unittest

FUNCTIONS = {
    "points": ["is_point(table, thing)", "point(table)", "ring(table)", "is_ring(table, thing)"],
    "closing": ["closed(table)", "spread(table, one, other)", "alike(one, other)", "within(one, other)"],
    "changes": ["cut(table, one, other, bound)", "later(table)", "earlier(table)", "begun(table, names)",
                "without(table, names)", "both(one, other)", "over(one, other)", "beyond(table, most)"],
    "pieces": ["rest(one, other)", "outside(one, others)", "joined(one, other)", "lean(table)"],
    "rows": ["parting(one, other)"],
    "runs": ["is_run(watcher, thing)", "ended(watcher, run)", "worths(watcher, run)", "heard(watcher, run)",
             "runs(watcher, row)", "takes(watcher, row)", "unsure(watcher)"],
    "lots": ["comes(watcher, place)", "shortest(watcher, place)", "closed_list(watcher)", "is_closed_list(watcher, thing)",
             "shows_never(watcher, place, thing)"],
    "comings": ["times(watcher, place, most)", "earliest(watcher, place)", "run_at(watcher, place, time)",
                "is_stuck(watcher, run)", "stuck(watcher)", "shows_not_by(watcher, place, n, thing)"],
    "rowscome": ["rows_of(watcher)", "begun_rows(watcher)", "run_for(watcher, row)", "row_comes(watcher, row)",
                 "look_through(watcher, row)", "shows_no_row(watcher, row, thing)", "whole_rows(watcher)",
                 "whole_run_for(watcher, row)"],
    "making": ["not_told(watcher, signals)", "both_tell(one, other)", "either_tell(one, other)", "less_tell(one, other)"],
    "telling": ["tells(watcher, row)", "told_alike(one, other)", "told_within(one, other)", "parting_row(one, other)",
                "told_beyond(one, other)", "alike_list(one, other)", "shows_alike(one, other, thing)"],
    "rules": ["checked_rule(thing)", "signals_in(rule)", "keeps(rule, row)", "first_broken(rule, row)",
              "watcher_of(rule, signals)"],
    "judging": ["judged(watcher, rule)", "keeping(watcher, rule)", "breaking(watcher, rule)",
                "tightest(watcher, rule, most)"],
    "logs": ["lost(log)", "least_lost(watcher, entries)"],
    "rounds": ["leaps(watcher)", "is_round(watcher, thing)", "round_time(watcher, thing)", "fastest(watcher)",
               "slowest(watcher)", "faster(watcher, mean)", "slower(watcher, mean)", "laps(watcher, thing, many)"],
    "heights": ["fast_heights(watcher, mean)", "slow_heights(watcher, mean)", "are_fast_heights(watcher, mean, thing)",
                "are_slow_heights(watcher, mean, thing)"],
    "texts": ["write_table(table)", "read_table(text)", "write_watcher(watcher)", "read_watcher(text)", "write_row(row)",
              "read_row(text)", "write_log(entries)", "read_log(text)", "write_rule(rule)", "read_rule(text)"],
    "houses": ["write_house(house)", "read_house(text)"],
}

CLASSES = {
    "tables": ["Table(names, bounds)", "names()", "bound(one, other)", "bounds()", "__len__()", "__eq__(other)"],
    "rows": ["Rows(signals, lanes, firsts, ends)", "signals()", "__contains__(thing)", "least()", "__eq__(other)",
             "__and__(other)", "__or__(other)", "__sub__(other)", "__xor__(other)", "__invert__()", "is_within(other)",
             "first()", "many()", "count(n)", "listed(n)", "begun()", "behind(row)"],
    "watchers": ["Watcher(clocks, limits, arrows, ends)", "clocks()", "places()", "arrows()", "ends()", "limit(place)",
                 "signals()", "__eq__(other)"],
    "going": ["Going(watcher)", "hear(signal, time)", "wait(time)", "now()", "place()", "worths()", "run()", "until()",
              "when(signal)", "undo()", "again()", "copy()", "trial(work)"],
    "toldrows": ["Told(watcher, row, known=None)", "row()", "__len__()", "__eq__(other)", "ways()", "table(way)",
                 "gap(i, j)", "reached(i, j)", "leaves(way, looks, i)", "stiff(way)", "known_by(way, looks)",
                 "wide(looks, i)", "fewest_looks(w)", "mistaken(one, other, looks)", "parting_looks()", "moved(times)",
                 "moved_to(times)", "believes(way, times, lot)", "fewest_wrong(times)"],
    "logs": ["Log(watcher, entries)", "entries()", "__len__()", "__eq__(other)", "is_run(thing)", "run()", "paths()",
             "table(path)", "barred(thing)", "at(place)", "went(arrow)", "went_ahead(one, other)", "shown(place)",
             "worth(clock)", "time_of(index)", "time_gone(arrow)", "time_now()", "next_ones()",
             "more(signal, time=None)"],
    "houses": ["House()", "put(name, kind, thing)", "thing(name)", "kinds()", "watcher(name)", "made()", "tells(w, row)",
               "judged(w, rule)", "parting(w, other)", "fastest(w)", "log(name)", "saw(name, signal, time=None)",
               "stood(name, time)", "drop(name)", "undo()", "again()", "count()", "trial(work)", "copy()"],
}


def told_parameters(function):
    """The parameters as the interface tells them, with what stands for those that are not passed."""
    return [str(parameter) for parameter in inspect.signature(function).parameters.values()]


class InterfaceTest(unittest.TestCase):
    def parts(self, told):
        name, parameters = told.rstrip(")").split("(")
        return name, [parameter for parameter in parameters.split(", ") if parameter]

    def test_functions(self):
        for file, lines in FUNCTIONS.items():
            module = importlib.import_module("rowsintime." + file)
            for line in lines:
                name, parameters = self.parts(line)
                function = getattr(module, name)
                self.assertEqual(function.__module__, module.__name__)
                self.assertEqual(told_parameters(function), parameters, line)

    def test_classes(self):
        for file, (head, *methods) in CLASSES.items():
            module = importlib.import_module("rowsintime." + file)
            name, parameters = self.parts(head)
            made = getattr(module, name)
            self.assertEqual(made.__module__, module.__name__)
            self.assertEqual(told_parameters(made), parameters, head)
            for line in methods:
                method, parameters = self.parts(line)
                self.assertIn(method, vars(made))
                self.assertEqual(told_parameters(vars(made)[method]), ["self"] + parameters, line)


if __name__ == "__main__":
    unittest.main()
