"""Houses: things under names, watchers made of others when they are asked for, and deeds that can be taken back."""

from rowsintime.errors import BadKind, BadName, BadText, Needed, NoName, NotOf, TakenKind
from rowsintime.judging import judged
from rowsintime.things import (
    KINDS, WATCHING, Maker, check_logs, check_names_in, kept_form, log_of, names_in, told_form)
from rowsintime.kinds import is_name
from rowsintime.rounds import fastest
from rowsintime.telling import parting_row, tells
from rowsintime.texts import (
    read_log, read_row, read_rule, read_table, read_watcher, write_log, write_row, write_rule, write_table,
    write_watcher)
from rowsintime.watchers import is_one_of
from rowsintime.words import first_line, read_as, so_many_behind, text_of


class House:
    """What it keeps, behind each deed, and what was made of it."""

    def __init__(self):
        # Pairs of a deed's word and all that is kept behind it; the ones behind the last standing one can come again.
        self._story = ((None, {}),)
        self._at = 0
        self._made = {}
        self._untold = ()

    def put(self, name, kind, thing):
        """Keep a thing of a kind under a name."""
        kept = self._kept()
        if not is_name(name):
            raise BadName(name)
        if not is_one_of(KINDS, kind):
            raise BadKind(kind)
        if name in kept and kept[name][0] != kind:
            raise TakenKind(name)
        form = kept_form(kind, thing)
        check_names_in(kept, name, kind, form)
        behind = {**kept, name: (kind, form)}
        if kind == "log":
            # Asked for its errors: a log is kept just as long as there is this one.
            log_of(behind, form)
        if kind == "watcher":
            check_logs(behind, name)
        self._do("put", behind)

    def thing(self, name):
        """What is kept under a name."""
        self._check_name(name)
        kind, thing = self._kept()[name]
        return told_form(kind, thing)

    def kinds(self):
        """The kinds by names, in the order in which these came to be kept."""
        kept = self._kept()
        return {name: kept[name][0] for name in kept}

    def watcher(self, name):
        """The watcher of a name, made of others if it has to be."""
        self._check_kind(name, WATCHING)
        maker = self._maker()
        found = maker.watcher(name)
        self._take(maker)
        return found

    def made(self):
        """The names of the watchers that were made since this was asked last."""
        names = list(self._untold)
        self._untold = ()
        return names

    def tells(self, w, row):
        self._check_kind(w, WATCHING)
        self._check_kind(row, ("row",))
        maker = self._maker()
        found = tells(maker.watcher(w), maker.kept[row][1])
        self._take(maker)
        return found

    def judged(self, w, rule):
        self._check_kind(w, WATCHING)
        self._check_kind(rule, ("rule",))
        maker = self._maker()
        found = judged(maker.watcher(w), maker.kept[rule][1])
        self._take(maker)
        return found

    def parting(self, w, other):
        """A timed row that just one of two tells, None if there is none."""
        self._check_kind(w, WATCHING)
        self._check_kind(other, WATCHING)
        maker = self._maker()
        one = maker.watcher(w)
        found = parting_row(one, maker.watcher(other))
        self._take(maker)
        return found

    def fastest(self, w):
        self._check_kind(w, ("watcher",))
        return fastest(self._kept()[w][1])

    def log(self, name):
        """The Log of a kept log."""
        self._check_kind(name, ("log",))
        return log_of(self._kept(), self._kept()[name][1])

    def saw(self, name, signal, time=None):
        """Put an entry behind those of a log."""
        self._grow("saw", name, (signal, time))

    def stood(self, name, time):
        """Put a moment behind the entries of a log."""
        self._grow("stood", name, (None, time))

    def drop(self, name):
        """Keep a name no more."""
        self._check_name(name)
        kept = self._kept()
        for other in kept:
            if name in [inner for inner, _ in names_in(kept[other][0], kept[other][1])]:
                raise Needed(name, other)
        self._do("drop", {other: kept[other] for other in kept if other != name})

    def undo(self):
        """Take back the last deed that stands: the name of its method, None if there is none."""
        if self._at == 0:
            return None
        self._at = self._at - 1
        return self._story[self._at + 1][0]

    def again(self):
        """Do again what was taken back last: the name of its method, None if there is nothing."""
        if self._at + 1 == len(self._story):
            return None
        self._at = self._at + 1
        return self._story[self._at][0]

    def count(self):
        """How many deeds are done and not taken back."""
        return self._at

    def trial(self, work):
        """What a function returns of this very house; all is as ahead of it then."""
        story = self._story
        at = self._at
        made = self._made
        untold = self._untold
        try:
            return work(self)
        finally:
            self._story = story
            self._at = at
            self._made = made
            self._untold = untold

    def copy(self):
        other = House()
        other._story = self._story
        other._at = self._at
        other._made = self._made
        other._untold = self._untold
        return other

    def _kept(self):
        return self._story[self._at][1]

    def _check_name(self, name):
        if not is_one_of(self._kept(), name):
            raise NoName(name)

    def _check_kind(self, name, kinds):
        self._check_name(name)
        if self._kept()[name][0] not in kinds:
            raise NotOf(name)

    def _do(self, word, kept):
        # The story is never changed itself, nor what is kept and made: copies and trials keep the same ones.
        self._story = self._story[:self._at + 1] + ((word, kept),)
        self._at = self._at + 1

    def _maker(self):
        return Maker(self._kept(), self._made)

    def _take(self, maker):
        """Take over what was made, now that nothing was raised."""
        self._made = maker.made
        self._untold = self._untold + tuple(maker.names)

    def _grow(self, word, name, entry):
        self._check_kind(name, ("log",))
        kept = self._kept()
        of, entries = kept[name][1]
        log = log_of(kept, (of, entries + (entry,)))
        self._do(word, {**kept, name: ("log", (of, tuple(log.entries())))})


def write_house(house):
    kinds = house.kinds()
    things = {name: house.thing(name) for name in kinds}
    told = {}
    left = list(kinds)
    while left:
        free = [name for name in left if all([inner in told for inner, _ in names_in(kinds[name], things[name])])]
        told[free[0]] = text_of([["keep", kinds[free[0]], free[0]]]) + write_thing(kinds[free[0]], things[free[0]])
        left.remove(free[0])
    return "".join([told[name] + text_of([["kept"]]) for name in told])


def write_thing(kind, thing):
    if kind == "table":
        return write_table(thing)
    if kind == "watcher":
        return write_watcher(thing)
    if kind == "row":
        return write_row(thing)
    if kind == "rule":
        return write_rule(thing)
    if kind == "made":
        return text_of([list(thing)])
    return text_of([["of", thing[0]]]) + write_log(thing[1])


def read_house(text):
    return read_as(text, house_in, write_house)


def house_in(lines):
    house = House()
    at = 0
    while at < len(lines):
        kind, name = so_many_behind(lines[at], "keep", 2)
        end = at + 1
        while end < len(lines) and lines[end] != ["kept"]:
            end += 1
        if end == len(lines):
            raise BadText(lines)
        house.put(name, kind, thing_in(kind, lines[at + 1:end]))
        at = end + 1
    return house


def thing_in(kind, lines):
    """The thing of a kind that lines tell."""
    if kind == "table":
        return read_table(text_of(lines))
    if kind == "watcher":
        return read_watcher(text_of(lines))
    if kind == "row":
        return read_row(text_of(lines))
    if kind == "rule":
        return read_rule(text_of(lines))
    if kind == "made":
        return first_line(lines)
    of = so_many_behind(first_line(lines), "of", 1)[0]
    return (of, read_log(text_of(lines[1:])))
