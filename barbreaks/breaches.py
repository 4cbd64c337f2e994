"""Breaches: rows of least lateness in which a demand is not kept."""

from barbreaks.courses import Course, with_step
from barbreaks.distances import shift_of, with_shift
from barbreaks.events import point_of
from barbreaks.reach import next_table, step_back


class Breach:
    """A demand, a row in which it is not kept, and the lateness of this row."""

    def __init__(self, demand, row, lateness):
        self.demand = demand
        self.row = list(row)
        self.lateness = lateness


def tables_from(outlook, start, goal, moment):
    """The tables of the points from start to goal if the start comes at this moment alone."""
    tables = [[(moment, 0)]]
    for point in range(start, goal):
        tables.append(next_table(outlook, point, tables[-1]))
    return tables


def breaking_ways(reach, demand, start):
    """The ways (lateness, moment, entry, shift) to break a demand of two different events.

    The start, the earlier one of the points of the two events, comes at the moment.
    The point of the first event comes with the entry of its table from this moment
    alone, and the event so many ticks later, the least number that breaks the demand.
    """
    outlook = reach.outlook
    point = point_of(outlook.order, demand.first)
    course = Course(outlook, start, point_of(outlook.order, demand.second))
    shifts = shift_of(outlook, demand.first)
    soon = shift_of(outlook, demand.second).low
    ways = []
    for moment, lateness in reach.tables[start]:
        bound = course(moment) + soon - demand.ticks
        for then, late in tables_from(outlook, start, max(start, point), moment)[-1]:
            shift = max(shifts.low, bound - then + 1)
            if shift in shifts:
                total = lateness + late + shift - shifts.low
                ways.append((total, moment, (then, late), shift))
    return ways


def row_of_way(reach, demand, start, way):
    """The row of a way to break a demand."""
    outlook = reach.outlook
    _, moment, entry, shift = way
    row = reach.row_to(start, moment)
    point = point_of(outlook.order, demand.first)
    tables = tables_from(outlook, start, point, moment)
    for before in reversed(range(start, point)):
        entry, lag = step_back(outlook, before, tables[before - start], entry)
        row = with_step(outlook.order, row, before, lag)
    return with_shift(outlook.order, row, demand.first, shift)


def breaker(reach, demand):
    """A breach of least lateness, None if the demand is kept in all rows."""
    order = reach.outlook.order
    start = min(point_of(order, demand.first), point_of(order, demand.second))
    if demand.first == demand.second:
        # An event has the distance 0 from itself, whatever its own lag is.
        row = reach.outlook.first_row()
        return Breach(demand, row, 0) if demand.ticks > 0 else None
    ways = breaking_ways(reach, demand, start)
    if ways == []:
        return None
    least = min(ways)
    return Breach(demand, row_of_way(reach, demand, start, least), least[0])
