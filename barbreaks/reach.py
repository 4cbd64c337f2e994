"""The tables of moments at which the points of an order can come."""

from barbreaks.courses import next_moment, step_span, with_step
from barbreaks.errors import NoPoint, NotReached
from barbreaks.spans import Span, numbers_of


def next_table(outlook, point, table):
    """The table of the point behind this one, from the table of this one."""
    span = step_span(outlook, point)
    found = {}
    for moment, lateness in table:
        for lag in numbers_of(span):
            then = next_moment(outlook.order, point, moment, lag)
            late = lateness + lag - span.low
            if then not in found or late < found[then]:
                found[then] = late
    return sorted(found.items())


def step_back(outlook, point, table, entry):
    """An entry of the table of the point, and a lag that leads from it to the next entry."""
    span = step_span(outlook, point)
    lags = numbers_of(span)
    ways = [((moment, lateness), lag) for moment, lateness in table for lag in lags
            if entry == (next_moment(outlook.order, point, moment, lag), lateness + lag - span.low)]
    return ways[0]


class Reach:
    """The tables of all points of an order in an outlook."""

    def __init__(self, outlook):
        self.outlook = outlook
        self.tables = [[(outlook.order.opens, 0)]]
        for point in range(outlook.order.points - 1):
            self.tables.append(next_table(outlook, point, self.tables[point]))

    def moments_at(self, point):
        """The moments at which the point can come, ascending."""
        return [moment for moment, _ in self._table(point)]

    def span_at(self, point):
        """The span from the first to the last of these moments."""
        table = self._table(point)
        return Span(table[0][0], table[-1][0])

    def lateness_at(self, point, moment):
        """The least lateness with which the point comes at the moment."""
        table = self._table(point)
        found = [lateness for then, lateness in table if then == moment]
        if found == []:
            raise NotReached(point, moment)
        return found[0]

    def row_to(self, point, moment):
        """A row of this lateness in which the point comes at the moment."""
        entry = (moment, self.lateness_at(point, moment))
        row = self.outlook.first_row()
        for before in reversed(range(point)):
            entry, lag = step_back(self.outlook, before, self.tables[before], entry)
            row = with_step(self.outlook.order, row, before, lag)
        return row

    def _table(self, point):
        if not 0 <= point < len(self.tables):
            raise NoPoint(point)
        return self.tables[point]
