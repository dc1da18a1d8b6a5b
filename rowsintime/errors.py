"""All errors of the package: each keeps the very objects that it is made with."""


class ClockError(ValueError):
    """What all errors of the package are."""


class BadNames(ClockError):
    def __init__(self, index):
        self.index = index


class BadBound(ClockError):
    def __init__(self, thing):
        self.thing = thing


class NoName(ClockError):
    def __init__(self, name):
        self.name = name


class SameName(ClockError):
    def __init__(self, name):
        self.name = name


class UnlikeNames(ClockError):
    """Two tables are not about the same names, in order."""


class Empty(ClockError):
    def __init__(self, ring):
        self.ring = ring


class BadMost(ClockError):
    def __init__(self, name):
        self.name = name


class BadTable(ClockError):
    def __init__(self, index):
        self.index = index


class BadSignals(ClockError):
    def __init__(self, index):
        self.index = index


class BadLane(ClockError):
    def __init__(self, index):
        self.index = index


class BadSpot(ClockError):
    def __init__(self, index):
        self.index = index


class UnlikeSignals(ClockError):
    """Two sets of rows are not of the same signals."""


class BadNumber(ClockError):
    def __init__(self, thing):
        self.thing = thing


class BadRow(ClockError):
    def __init__(self, index):
        self.index = index


class BadClocks(ClockError):
    def __init__(self, index):
        self.index = index


class BadPlace(ClockError):
    def __init__(self, name):
        self.name = name


class BadArrow(ClockError):
    def __init__(self, index):
        self.index = index


class BadEnd(ClockError):
    def __init__(self, index):
        self.index = index


class NoPlace(ClockError):
    def __init__(self, name):
        self.name = name


class BadRun(ClockError):
    def __init__(self, thing):
        self.thing = thing


class Unseen(ClockError):
    def __init__(self, index):
        self.index = index


class Unsure(ClockError):
    def __init__(self, first, second):
        self.first = first
        self.second = second


class BadSignal(ClockError):
    def __init__(self, thing):
        self.thing = thing


class BadTime(ClockError):
    def __init__(self, thing):
        self.thing = thing


class Early(ClockError):
    def __init__(self, time):
        self.time = time


class Refused(ClockError):
    def __init__(self, signal):
        self.signal = signal


class Held(ClockError):
    def __init__(self, time):
        self.time = time


class Lacks(ClockError):
    def __init__(self, signal):
        self.signal = signal


class SameClock(ClockError):
    def __init__(self, name):
        self.name = name


class BadRule(ClockError):
    def __init__(self, path):
        self.path = path


class NotPlain(ClockError):
    def __init__(self, rule):
        self.rule = rule


class NoRow(ClockError):
    """No timed row ends at an end."""


class BadKnown(ClockError):
    def __init__(self, key):
        self.key = key


class NoWay(ClockError):
    """A told row has no way."""


class BadWay(ClockError):
    def __init__(self, way):
        self.way = way


class NoSignal(ClockError):
    def __init__(self, thing):
        self.thing = thing


class BadLooks(ClockError):
    def __init__(self, index):
        self.index = index


class BadTimes(ClockError):
    def __init__(self, index):
        self.index = index


class Looped(ClockError):
    def __init__(self, arrows):
        self.arrows = arrows


class BadEntry(ClockError):
    def __init__(self, index):
        self.index = index


class Crossed(ClockError):
    def __init__(self, index):
        self.index = index


class BadPath(ClockError):
    def __init__(self, thing):
        self.thing = thing


class NoArrow(ClockError):
    def __init__(self, arrow):
        self.arrow = arrow


class Apart(ClockError):
    """No run has both arrows."""


class NoClock(ClockError):
    def __init__(self, clock):
        self.clock = clock


class NoEntry(ClockError):
    def __init__(self, index):
        self.index = index


class NotFresh(ClockError):
    def __init__(self, circle):
        self.circle = circle


class NoRound(ClockError):
    def __init__(self, thing):
        self.thing = thing


class BadMean(ClockError):
    def __init__(self, mean):
        self.mean = mean


class BadText(ClockError):
    def __init__(self, thing):
        self.thing = thing


class BadName(ClockError):
    def __init__(self, name):
        self.name = name


class BadKind(ClockError):
    def __init__(self, kind):
        self.kind = kind


class TakenKind(ClockError):
    def __init__(self, name):
        self.name = name


class BadThing(ClockError):
    def __init__(self, thing):
        self.thing = thing


class NotOf(ClockError):
    def __init__(self, name):
        self.name = name


class OnItself(ClockError):
    def __init__(self, name):
        self.name = name


class Broken(ClockError):
    def __init__(self, name):
        self.name = name


class Needed(ClockError):
    def __init__(self, name, other):
        self.name = name
        self.other = other
