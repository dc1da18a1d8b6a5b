"""Going along a sure watcher's run, signal by signal, as time goes on."""

from rowsintime.errors import BadSignal, BadTime, Early, Held, Refused
from rowsintime.kinds import is_time
from rowsintime.plans import plan_of
from rowsintime.ratios import is_less, lowest
from rowsintime.runs import check_sure
from rowsintime.steps import are_kept, can_go, first_stand, gone, limit_edge, scale_of, window, worths_at
from rowsintime.stretches import lower_told, merged, upper_told
from rowsintime.watchers import is_one_of


class Going:
    """A run that goes on: all that was done, and what was taken back and can be done again."""

    def __init__(self, watcher):
        check_sure(watcher)
        self._watcher = watcher
        self._plan = plan_of(watcher)
        # Pairs of a stand and the run so far, behind each deed; the ones behind the last standing one can come again.
        self._story = ((first_stand(self._plan), ()),)
        self._at = 0

    def hear(self, signal, time):
        """Go along the one arrow that there is for a signal then: its number."""
        self._check_signal(signal)
        self._check_time(time)
        stand, run = self._story[self._at]
        for number in self._plan.leaving[stand[0]]:
            if self._plan.arrows[number][1] == signal and can_go(self._plan, stand, number, time):
                behind = gone(self._plan, stand, number, time)
                self._do(behind, run + ((number, behind[1]),))
                return number
        raise Refused(signal)

    def wait(self, time):
        """Let the time go on."""
        self._check_time(time)
        stand, run = self._story[self._at]
        if not are_kept(self._plan.limits[stand[0]], stand[2], time):
            raise Held(time)
        self._do((stand[0], lowest(time[0], time[1]), stand[2]), run)

    def now(self):
        return self._stand()[1]

    def place(self):
        return self._stand()[0]

    def worths(self):
        """The clocks' worths now."""
        return worths_at(self._watcher.clocks(), self._stand())

    def run(self):
        return list(self._story[self._at][1])

    def until(self):
        """The upper bound of the times to which it can stand here."""
        stand = self._stand()
        scale = scale_of(stand)
        return upper_in_units(limit_edge(stand, self._plan.limits[stand[0]], scale), scale)

    def when(self, signal):
        """The stretches of the times from now on at which a signal would be let."""
        self._check_signal(signal)
        stand = self._stand()
        scale = scale_of(stand)
        arrows = [self._plan.arrows[number] for number in self._plan.leaving[stand[0]]]
        found = [window(stand, arrow[2], scale) for arrow in arrows if arrow[1] == signal]
        stretches = merged([stretch for stretch in found if stretch is not None])
        return [(lower_in_units(low, scale), upper_in_units(high, scale)) for low, high in stretches]

    def undo(self):
        """Take back the last deed that stands; False if there is none."""
        if self._at == 0:
            return False
        self._at = self._at - 1
        return True

    def again(self):
        """Do again what was taken back last; False if there is nothing."""
        if self._at + 1 == len(self._story):
            return False
        self._at = self._at + 1
        return True

    def copy(self):
        other = Going(self._watcher)
        other._story = self._story
        other._at = self._at
        return other

    def trial(self, work):
        """What a function returns of this very object; all is as ahead of it then."""
        story = self._story
        at = self._at
        try:
            return work(self)
        finally:
            self._story = story
            self._at = at

    def _stand(self):
        return self._story[self._at][0]

    def _check_signal(self, thing):
        if not is_one_of(self._watcher.signals(), thing):
            raise BadSignal(thing)

    def _check_time(self, thing):
        if not is_time(thing):
            raise BadTime(thing)
        if is_less(thing, self._stand()[1]):
            raise Early(thing)

    def _do(self, stand, run):
        # The story is never changed itself: copies and trials keep the same one.
        self._story = self._story[:self._at + 1] + ((stand, run),)
        self._at = self._at + 1


def lower_in_units(edge, scale):
    word, number = lower_told(edge)
    return (word, lowest(number, scale))


def upper_in_units(edge, scale):
    if edge is None:
        return None
    word, number = upper_told(edge)
    return (word, lowest(number, scale))
