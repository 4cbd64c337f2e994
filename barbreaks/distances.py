"""The least and the greatest distance of two events over all rows."""

from barbreaks.courses import Course, step_span, with_lag, with_step
from barbreaks.events import point_of
from barbreaks.runs import FREE_LAGS, fixed_shift
from barbreaks.spans import Span


class Distance:
    """A distance of two events, and a row that has it."""

    def __init__(self, ticks, row):
        self.ticks = ticks
        self.row = list(row)


def shift_of(outlook, event):
    """The span of the ticks from the point of an event to the event."""
    if event[0] in FREE_LAGS:
        return outlook.span_of(event[1], FREE_LAGS[event[0]])
    ticks = fixed_shift(outlook.order, event)
    return Span(ticks, ticks)


def with_shift(order, row, event, ticks):
    """A new row in which the event comes so many ticks after its point."""
    if event[0] in FREE_LAGS:
        return with_lag(row, order.number_of(event[1]), FREE_LAGS[event[0]], ticks)
    return list(row)


def nearest_later(reach, point, goal):
    """The least distance from a point to one that is not before it."""
    course = Course(reach.outlook, point, goal)
    ticks, moment = min([(course(then) - then, then) for then in reach.moments_at(point)])
    return Distance(ticks, reach.row_to(point, moment))


def nearest_earlier(reach, point, goal):
    """The least distance from a point to an earlier one."""
    outlook = reach.outlook
    course = Course(outlook, goal, point)
    ticks, moment = min([(then - course.latest(then), then) for then in reach.moments_at(goal)])
    row = reach.row_to(goal, moment)
    for step in range(goal, point):
        row = with_step(outlook.order, row, step, step_span(outlook, step).high)
    return Distance(ticks, row)


def nearest(reach, first, second):
    """The least distance from the first to the second event, with a row."""
    outlook = reach.outlook
    order = outlook.order
    point = point_of(order, first)
    goal = point_of(order, second)
    if first == second:
        return Distance(0, outlook.first_row())
    if point <= goal:
        found = nearest_later(reach, point, goal)
    else:
        found = nearest_earlier(reach, point, goal)
    late = shift_of(outlook, first).high
    soon = shift_of(outlook, second).low
    row = with_shift(order, with_shift(order, found.row, first, late), second, soon)
    return Distance(found.ticks - late + soon, row)


def farthest(reach, first, second):
    """The greatest distance from the first to the second event, with a row."""
    point_of(reach.outlook.order, first)
    found = nearest(reach, second, first)
    return Distance(-found.ticks, found.row)
