"""Rows of lags, and runs: the day as it goes with the lags of a row."""

from barbreaks.errors import BadRow, BadSize
from barbreaks.events import point_of
from barbreaks.items import Break
from barbreaks.spans import Span

LAGS = ("delay", "length", "walk", "pack")
FREE_LAGS = {"enter": "walk", "out": "pack"}


def bounds_of(order, item):
    """The spans of the lags of an item, in the order of LAGS."""
    delay = Span(0, item.delay)
    if isinstance(item, Break):
        return (delay,)
    return (delay, Span(item.least, item.most), order.house.walk, order.house.pack)


def lags_fit(spans, lags):
    """True if there is a lag for each span, and it is in this span."""
    return len(lags) == len(spans) and all([lag in span for span, lag in zip(spans, lags)])


def check_row(order, bounds, row):
    """Refuses a row that has not a fitting tuple for each item."""
    if len(row) != len(order.lineup):
        raise BadSize(len(row))
    for item, spans, lags in zip(order.lineup, bounds, row):
        if not lags_fit(spans, lags):
            raise BadRow(item.name)


def fixed_shift(order, event):
    """The ticks from the point of an event to the event, without its own lag."""
    if event[0] == "place":
        return event[2] * order[event[1]].unit
    return 0


class Run:
    """A day of an order with the lags of one row."""

    def __init__(self, order, row, moments):
        self.order = order
        self.row = list(row)
        self.moments = list(moments)

    def moment_of(self, event):
        """The moment of an event."""
        moment = self.moments[point_of(self.order, event)] + fixed_shift(self.order, event)
        if event[0] in FREE_LAGS:
            lags = self.row[self.order.number_of(event[1])]
            return moment + lags[LAGS.index(FREE_LAGS[event[0]])]
        return moment

    def inside(self, moment):
        """The names of the pieces whose crew is in its studio at the moment."""
        return self._between("enter", moment)

    def bound(self, moment):
        """The names of the pieces whose crew is bound at the moment."""
        return self._between("call", moment)

    def _between(self, word, moment):
        found = []
        for name in self.order.piece_names():
            if self.moment_of((word, name)) <= moment < self.moment_of(("out", name)):
                found.append(name)
        return found


def run(order, row):
    """The run of an order with the lags of a row."""
    check_row(order, [bounds_of(order, item) for item in order.lineup], row)
    moments = [order.opens]
    for item, lags in zip(order.lineup, row):
        begin = item.begin_at(moments[-1], lags[0])
        length = item.length if isinstance(item, Break) else lags[1]
        moments.extend([begin, begin + length])
    return Run(order, row, moments)
