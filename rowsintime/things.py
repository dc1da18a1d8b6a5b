"""What houses keep: things of kinds, the names in them, and watchers made of others by these names.

What is KEPT is a dict from names to pairs (kind, thing). A house never changes it: each deed makes a new one.
"""

from rowsintime.errors import BadThing, Broken, ClockError, NoName, NotOf, OnItself
from rowsintime.kinds import is_list, is_name
from rowsintime.logs import Log
from rowsintime.logways import check_entries
from rowsintime.making import both_tell, either_tell, less_tell, not_told
from rowsintime.ratios import lowest
from rowsintime.rules import checked_rule, watcher_of
from rowsintime.runs import check_timed_row
from rowsintime.tables import Table
from rowsintime.watchers import Watcher

KINDS = ("table", "watcher", "row", "rule", "made", "log")

# The kinds of what is, or is made, a watcher.
WATCHING = ("watcher", "made")

# How many names stand behind the words of made ones.
NAMES_BEHIND = {"not": 1, "both": 2, "either": 2, "less": 2, "by": 2}


def kept_form(kind, thing):
    """Any object as a house keeps it; BadThing if it has not the form of this kind."""
    if kind == "table":
        well = isinstance(thing, Table)
    elif kind == "watcher":
        well = isinstance(thing, Watcher)
    elif kind == "made":
        well = is_made_form(thing)
    elif kind == "log":
        well = is_list(thing) and len(thing) == 2 and is_name(thing[0])
    else:
        well = True
    if not well:
        raise BadThing(thing)
    try:
        return copied_thing(kind, thing)
    except ClockError:
        raise BadThing(thing) from None


def is_made_form(thing):
    if not is_list(thing) or not thing or not isinstance(thing[0], str) or thing[0] not in NAMES_BEHIND:
        return False
    return len(thing) == 1 + NAMES_BEHIND[thing[0]] and all([is_name(name) for name in thing[1:]])


def copied_thing(kind, thing):
    """A thing as tuples throughout; what is no rule, row or entries raises its own errors."""
    if kind == "rule":
        return checked_rule(thing)
    if kind == "row":
        check_timed_row(thing)
        return tuple([(signal, lowest(time[0], time[1])) for signal, time in thing])
    if kind == "log":
        check_entries(thing[1])
        return (thing[0], tuple([tuple(entry) for entry in thing[1]]))
    return tuple(thing) if kind == "made" else thing


def told_form(kind, thing):
    """A kept thing as callers are told it."""
    if kind == "row":
        return list(thing)
    if kind == "log":
        return (thing[0], list(thing[1]))
    return thing


def names_in(kind, thing):
    """The names in a kept thing, each with the kinds of what has to stand there."""
    if kind == "log":
        return [(thing[0], ("watcher",))]
    if kind != "made":
        return []
    kinds = [("rule",), WATCHING] if thing[0] == "by" else [WATCHING, WATCHING]
    return list(zip(thing[1:], kinds))


def check_names_in(kept, name, kind, thing):
    """Whether all is kept that a thing to be kept under a name is of, and does not hang on this name."""
    inner = names_in(kind, thing)
    for other, _ in inner:
        if other not in kept:
            raise NoName(other)
    for other, kinds in inner:
        if kept[other][0] not in kinds:
            raise NotOf(other)
    if any([name in hung_on(kept, other) for other, _ in inner]):
        raise OnItself(name)


def hung_on(kept, name):
    """All on which a name hangs, itself among it, as a dict from names to things."""
    found = {}
    left = [name]
    while left:
        other = left.pop()
        if other not in found:
            found[other] = kept[other][1]
            left.extend([inner for inner, _ in names_in(kept[other][0], kept[other][1])])
    return found


def log_of(kept, thing):
    """The Log of a kept log."""
    return Log(kept[thing[0]][1], thing[1])


def check_logs(kept, name):
    """Whether there still is a Log of each kept log of a watcher."""
    for other in kept:
        kind, thing = kept[other]
        if kind == "log" and thing[0] == name and not is_log_of(kept, thing):
            raise Broken(other)


def is_log_of(kept, thing):
    try:
        log_of(kept, thing)
    except ClockError:
        return False
    return True


class Maker:
    """One time of asking: the watchers that were made so far, and the names of those that it makes, in order.

    What was made is a dict from names to pairs: all on which it hung, and the watcher.
    """

    def __init__(self, kept, made):
        self.kept = kept
        self.made = dict(made)
        self.names = []

    def watcher(self, name):
        """The watcher of a name, made anew only if something on which it hangs is another one."""
        kind, thing = self.kept[name]
        if kind == "watcher":
            return thing
        ground = hung_on(self.kept, name)
        if name not in self.made or self.made[name][0] != ground:
            found = self.made_of(thing)
            self.made[name] = (ground, found)
            self.names.append(name)
        return self.made[name][1]

    def made_of(self, thing):
        word = thing[0]
        if word == "by":
            return watcher_of(self.kept[thing[1]][1], self.watcher(thing[2]).signals())
        watchers = [self.watcher(name) for name in thing[1:]]
        if word == "not":
            return not_told(watchers[0], watchers[0].signals())
        if word == "both":
            return both_tell(watchers[0], watchers[1])
        if word == "either":
            return either_tell(watchers[0], watchers[1])
        return less_tell(watchers[0], watchers[1])
