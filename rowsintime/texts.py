"""Texts of tables, watchers, timed rows, entries of logs and rules, written and read."""

from rowsintime.errors import BadText
from rowsintime.logways import check_entries
from rowsintime.rules import checked_rule
from rowsintime.runs import check_timed_row
from rowsintime.tables import Table
from rowsintime.watchers import Watcher
from rowsintime.words import (
    DOT, first_line, fraction_in, fraction_word, number_in, number_word, read_as, so_many_behind, text_of, words_behind)


def write_table(table):
    bounds = table.bounds()
    lines = [["bound", or_dot(one), or_dot(other)] + bound_words(bounds[one, other]) for one, other in bounds]
    return text_of([["names"] + table.names()] + lines)


def read_table(text):
    return read_as(text, table_in, write_table)


def table_in(lines):
    names = words_behind(first_line(lines), "names")
    bounds = {}
    for line in lines[1:]:
        one, other, word, n = so_many_behind(line, "bound", 4)
        bounds[without_dot(one), without_dot(other)] = (word, number_in(n))
    return Table(names, bounds)


def or_dot(name):
    return DOT if name == "" else name


def without_dot(word):
    return "" if word == DOT else word


def bound_words(bound):
    return [bound[0], number_word(bound[1])]


def write_watcher(watcher):
    lines = [["clocks"] + watcher.clocks()]
    for place in watcher.places():
        limit = watcher.limit(place)
        lines.append(["place", place] + [word for clock in limit for word in [clock] + bound_words(limit[clock])])
    lines.extend([arrow_words(arrow) for arrow in watcher.arrows()])
    return text_of(lines + [["ends"] + watcher.ends()])


def arrow_words(arrow):
    place, signal, cuts, begun, to = arrow
    words = ["arrow", place, DOT if signal is None else signal, to]
    for clock, word, n in cuts:
        words.extend(["if", clock, word, number_word(n)])
    return words + [word for clock in begun for word in ("new", clock)]


def read_watcher(text):
    return read_as(text, watcher_in, write_watcher)


def watcher_in(lines):
    clocks = words_behind(first_line(lines), "clocks")
    ends = words_behind(lines[-1], "ends")
    limits = {}
    arrows = []
    for line in lines[1:-1]:
        if line[0] == "arrow":
            arrows.append(arrow_in(line[1:]))
        else:
            words = words_behind(line, "place")
            limits[first_line(words)] = limit_in(words[1:])
    return Watcher(clocks, limits, arrows, ends)


def limit_in(words):
    if len(words) % 3 != 0:
        raise BadText(words)
    return {words[at]: (words[at + 1], number_in(words[at + 2])) for at in range(0, len(words), 3)}


def arrow_in(words):
    if len(words) < 3:
        raise BadText(words)
    cuts = []
    at = 3
    while at + 3 < len(words) and words[at] == "if":
        cuts.append((words[at + 1], words[at + 2], number_in(words[at + 3])))
        at += 4
    begun = []
    while at + 1 < len(words) and words[at] == "new":
        begun.append(words[at + 1])
        at += 2
    if at < len(words):
        raise BadText(words)
    return (words[0], None if words[1] == DOT else words[1], cuts, begun, words[2])


def write_row(row):
    check_timed_row(row)
    return text_of([["at", fraction_word(time), signal] for signal, time in row])


def read_row(text):
    return read_as(text, row_in, write_row)


def row_in(lines):
    pairs = [so_many_behind(line, "at", 2) for line in lines]
    return [(signal, fraction_in(time)) for time, signal in pairs]


def write_log(entries):
    check_entries(entries)
    return text_of([["saw", DOT if signal is None else signal, DOT if time is None else number_word(time)]
                    for signal, time in entries])


def read_log(text):
    return read_as(text, log_in, write_log)


def log_in(lines):
    pairs = [so_many_behind(line, "saw", 2) for line in lines]
    return [(None if signal == DOT else signal, None if time == DOT else number_in(time)) for signal, time in pairs]


def write_rule(rule):
    return text_of([rule_words(checked_rule(rule))])


def rule_words(rule):
    words = [rule[0]]
    for part in rule[1:]:
        if isinstance(part, tuple):
            words.extend(rule_words(part))
        else:
            words.append(part if isinstance(part, str) else number_word(part))
    return words


def read_rule(text):
    return read_as(text, rule_in, write_rule)


def rule_in(lines):
    if len(lines) != 1:
        raise BadText(lines)
    rule, at = rule_at(lines[0], 0)
    if at != len(lines[0]):
        raise BadText(lines)
    return rule


def rule_at(words, at):
    """The rule that begins at a word, and the index of the word behind it."""
    if at >= len(words):
        raise BadText(words)
    word = words[at]
    if word in ("since", "soon"):
        if at + 5 > len(words):
            raise BadText(words)
        return ((word, words[at + 1], words[at + 2], words[at + 3], number_in(words[at + 4])), at + 5)
    if word not in ("not", "both", "either"):
        raise BadText(words)
    parts = []
    to = at + 1
    for _ in range(1 if word == "not" else 2):
        part, to = rule_at(words, to)
        parts.append(part)
    return ((word,) + tuple(parts), to)
