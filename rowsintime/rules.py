"""Rules about timed rows: what they are, which rows keep them, and watchers that tell just these rows."""

from rowsintime.bounds import code_of, is_kept
from rowsintime.errors import BadRule, NotPlain
from rowsintime.kinds import is_count, is_list, is_name
from rowsintime.making import both_tell, check_all_signals, either_tell, not_told
from rowsintime.ratios import difference
from rowsintime.runs import check_timed_row
from rowsintime.watchers import Watcher, is_one_of

# How many things rules have, by their words, and which words of bounds the plain ones have.
LENGTHS = {"since": 5, "soon": 5, "not": 2, "both": 3, "either": 3}
BOUND_WORDS = {"since": ("upto", "below", "from", "above"), "soon": ("upto", "below")}

# By which word what breaks a bound is told.
CONTRARIES = {"upto": "above", "below": "from", "from": "below", "above": "upto"}

CLOCK = "since"


def checked_rule(thing):
    """The rule as tuples throughout."""
    path = wrong_path(thing)
    if path is not None:
        raise BadRule(path)
    return as_tuples(thing)


def wrong_path(thing):
    """The indexes by which the first wrong thing of what should be a rule is come to, None if it is one."""
    if not has_form(thing):
        return ()
    if is_plain(thing):
        return wrong_in_plain(thing)
    for at in range(1, len(thing)):
        path = wrong_path(thing[at])
        if path is not None:
            return (at,) + path
    return None


def has_form(thing):
    """Whether any object begins with the word of a rule, and has as many things."""
    if not is_list(thing) or not thing or not isinstance(thing[0], str):
        return False
    return thing[0] in LENGTHS and len(thing) == LENGTHS[thing[0]]


def wrong_in_plain(thing):
    if not is_name(thing[1]):
        return (1,)
    if not is_name(thing[2]):
        return (2,)
    if not is_one_of(BOUND_WORDS[thing[0]], thing[3]):
        return (3,)
    return None if is_count(thing[4]) else (4,)


def is_plain(rule):
    """Whether a rule, or what begins like one, is a since or a soon."""
    return rule[0] in BOUND_WORDS


def as_tuples(rule):
    return tuple([as_tuples(part) if is_list(part) else part for part in rule])


def signals_in(rule):
    """The ascending list of the names in a rule."""
    return signals_of(checked_rule(rule))


def signals_of(rule):
    if is_plain(rule):
        return sorted(set(rule[1:3]))
    return sorted(set([signal for part in rule[1:] for signal in signals_of(part)]))


def keeps(rule, row):
    """Whether a timed row keeps a rule."""
    told = checked_rule(rule)
    check_timed_row(row)
    return is_kept_by(told, row)


def is_kept_by(rule, row):
    if is_plain(rule):
        return first_unkept(rule, row) is None
    parts = [is_kept_by(part, row) for part in rule[1:]]
    if rule[0] == "not":
        return not parts[0]
    return all(parts) if rule[0] == "both" else any(parts)


def first_broken(rule, row):
    """The index of the first signal for which a row does not keep a since or a soon, None if it keeps it."""
    told = checked_plain(rule)
    check_timed_row(row)
    return first_unkept(told, row)


def checked_plain(rule):
    told = checked_rule(rule)
    if not is_plain(told):
        raise NotPlain(rule)
    return told


def first_unkept(rule, row):
    word, signal, other, bound, n = rule
    for at, pair in enumerate(row):
        if pair[0] != signal:
            continue
        beside = row[:at] if word == "since" else row[at + 1:]
        gaps = [distance(pair[1], time) for name, time in beside if name == other]
        if not any([is_so(bound, n, gap) for gap in gaps]):
            return at
    return None


def distance(one, other):
    """How far two times are apart."""
    top, bottom = difference(one, other)
    return (abs(top), bottom)


def is_so(word, n, gap):
    """Whether a fraction is upto, below, from or above a number."""
    if word in ("upto", "below"):
        return is_kept(code_of((word, n)), gap)
    return not is_kept(code_of((CONTRARIES[word], n)), gap)


def watcher_of(rule, signals):
    """A whole watcher that tells just the timed rows of some signals that keep a rule."""
    told = checked_rule(rule)
    check_all_signals(signals, signals_of(told))
    return watcher_for(told, sorted(signals))


def watcher_for(rule, signals):
    word = rule[0]
    if word == "since":
        return since_watcher(rule, signals)
    if word == "soon":
        return soon_watcher(rule, signals)
    watchers = [watcher_for(part, signals) for part in rule[1:]]
    if word == "not":
        return not_told(watchers[0], signals)
    if word == "both":
        return both_tell(watchers[0], watchers[1])
    return either_tell(watchers[0], watchers[1])


def since_watcher(rule, signals):
    _, late, early, word, n = rule
    # Of several early ones the last one decides if it has to be near, else the first one.
    begun = [CLOCK] if word in ("upto", "below") else []
    arrows = []
    for signal in signals:
        if signal == late:
            arrows.append(("none", signal, [], [], "broken"))
            # Where both are one signal no early one is ever ahead: some is not come to.
            arrows.extend(parted_arrows("some", signal, word, n, "some"))
        elif signal == early:
            arrows.append(("none", signal, [], [CLOCK], "some"))
            arrows.append(("some", signal, [], begun, "some"))
        else:
            arrows.extend([("none", signal, [], [], "none"), ("some", signal, [], [], "some")])
        arrows.append(("broken", signal, [], [], "broken"))
    return Watcher([CLOCK], {"none": {}, "some": {}, "broken": {}}, arrows, ["none", "some"])


def soon_watcher(rule, signals):
    _, early, late, word, n = rule
    arrows = []
    for signal in signals:
        if signal == early:
            # Of several ones without a late one between the first one decides; the last one of a row, if both are
            # one signal, has no late one.
            arrows.extend([("calm", signal, [], [CLOCK], "waiting"), ("waiting", signal, [], [], "waiting")])
        elif signal == late:
            arrows.append(("calm", signal, [], [], "calm"))
            arrows.extend(parted_arrows("waiting", signal, word, n, "calm"))
        else:
            arrows.extend([("calm", signal, [], [], "calm"), ("waiting", signal, [], [], "waiting")])
        arrows.append(("broken", signal, [], [], "broken"))
    return Watcher([CLOCK], {"calm": {}, "waiting": {}, "broken": {}}, arrows, ["calm"])


def parted_arrows(place, signal, word, n, kept):
    """The arrow of what keeps a bound, and that of what breaks it."""
    return [(place, signal, [(CLOCK, word, n)], [], kept),
            (place, signal, [(CLOCK, CONTRARIES[word], n)], [], "broken")]
