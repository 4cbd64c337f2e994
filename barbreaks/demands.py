"""Demands: one event must come at least so many ticks after another."""

from barbreaks.distances import farthest, nearest

ALWAYS = "always"
MAYBE = "maybe"
NEVER = "never"


class Demand:
    """The second event must come at least so many ticks after the first one."""

    def __init__(self, word, first, second, ticks):
        self.word = word
        self.first = first
        self.second = second
        self.ticks = ticks

    def __call__(self, day):
        return self._margin_in(day)

    def kept(self, day):
        """True if the demand is kept in a run."""
        return self._margin_in(day) >= 0

    def _margin_in(self, day):
        before = day.moment_of(self.first)
        return day.moment_of(self.second) - before - self.ticks


def margin(reach, demand):
    """The least margin of a demand over all rows."""
    return nearest(reach, demand.first, demand.second).ticks - demand.ticks


def fate(reach, demand):
    """Whether a demand is kept in all rows, in some or in none."""
    if margin(reach, demand) >= 0:
        return ALWAYS
    if farthest(reach, demand.first, demand.second).ticks < demand.ticks:
        return NEVER
    return MAYBE
