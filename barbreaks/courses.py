"""Courses: how one point follows from an earlier one."""

from barbreaks.errors import NoPoint
from barbreaks.items import Break
from barbreaks.runs import LAGS
from barbreaks.spans import Span


def step_word(order, point):
    """The name of the lag of the step behind a point, None before the end of a break."""
    if point % 2 == 0:
        return "delay"
    if isinstance(order.lineup[point // 2], Break):
        return None
    return "length"


def step_span(outlook, point):
    """The span of the lag of the step behind a point.

    The end of a break comes with its whole length as the one possible lag.
    """
    item = outlook.order.lineup[point // 2]
    word = step_word(outlook.order, point)
    if word is None:
        return Span(item.length, item.length)
    return outlook.span_of(item.name, word)


def next_moment(order, point, moment, lag):
    """The moment of the point behind this one, if the step between has this lag."""
    if point % 2 == 0:
        return order.lineup[point // 2].begin_at(moment, lag)
    return moment + lag


def with_lag(row, number, word, lag):
    """A new row in which one lag of the item of this number is another one."""
    lags = list(row[number])
    lags[LAGS.index(word)] = lag
    changed = list(row)
    changed[number] = tuple(lags)
    return changed


def with_step(order, row, point, lag):
    """A new row in which the step behind the point has this lag, if it has one."""
    word = step_word(order, point)
    if word is None:
        return list(row)
    return with_lag(row, point // 2, word, lag)


class Course:
    """The way from one point of an order to a later one, or to itself."""

    def __init__(self, outlook, start, goal):
        last = outlook.order.points - 1
        if not 0 <= start <= last:
            raise NoPoint(start)
        if not start <= goal <= last:
            raise NoPoint(goal)
        self.outlook = outlook
        self.start = start
        self.goal = goal
        self._spans = [step_span(outlook, point) for point in range(start, goal)]

    def __call__(self, moment):
        return self._follow(moment, [span.low for span in self._spans])

    def latest(self, moment):
        """The moment of the goal, if all lags on the way are greatest."""
        return self._follow(moment, [span.high for span in self._spans])

    def _follow(self, moment, lags):
        for point, lag in enumerate(lags, start=self.start):
            moment = next_moment(self.outlook.order, point, moment, lag)
        return moment

    def __rshift__(self, other):
        if other.start != self.goal:
            raise NoPoint(other.start)
        return Course(self.outlook, self.start, other.goal)
