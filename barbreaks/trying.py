"""Least distances and breaches, found by trying all rows."""

from barbreaks.events import point_of
from barbreaks.runs import run


def check_events(order, first, second):
    """Refuses two events of which the order does not have both."""
    point_of(order, first)
    point_of(order, second)


def plain_nearest(outlook, first, second):
    """The least distance from the first to the second event."""
    check_events(outlook.order, first, second)
    days = [run(outlook.order, row) for row in outlook.rows()]
    return min([day.moment_of(second) - day.moment_of(first) for day in days])


def plain_breaker(outlook, demand):
    """The least lateness of a row in which the demand is not kept, None if there is none."""
    check_events(outlook.order, demand.first, demand.second)
    broken = [row for row in outlook.rows() if not demand.kept(run(outlook.order, row))]
    return min([outlook.lateness_of(row) for row in broken], default=None)
