"""Outlooks: which values of the lags are still possible."""

from barbreaks.errors import BadWord, Outside, TooMany
from barbreaks.runs import LAGS, bounds_of, check_row, lags_fit
from barbreaks.spans import Span, numbers_of

MOST_ROWS = 2000


def outlook_with(order, bounds):
    """The outlook of an order with these spans of the lags of its items."""
    made = Outlook(order)
    made._bounds = list(bounds)
    return made


def lag_tuples(spans):
    """All tuples of lags of one item, ascending."""
    found = [()]
    for span in spans:
        found = [(*lags, lag) for lags in found for lag in numbers_of(span)]
    return found


class Outlook:
    """A span for each lag of an order; its rows have their lags in these spans."""

    def __init__(self, order):
        self.order = order
        self._bounds = [bounds_of(order, item) for item in order.lineup]

    def __contains__(self, x):
        if len(x) != len(self._bounds):
            return False
        return all([lags_fit(spans, lags) for spans, lags in zip(self._bounds, x)])

    def span_of(self, name, word):
        """The span of a lag."""
        number, at = self._find(name, word)
        return self._bounds[number][at]

    def narrowed(self, name, word, low, high):
        """The outlook in which this lag is only from low to high."""
        span = self.span_of(name, word)
        if low > high or low not in span or high not in span:
            raise Outside(word)
        return self._with_span(name, word, Span(low, high))

    def split_at(self, name, word, at):
        """The outlooks in which this lag is less than at, and in which it is not."""
        span = self.span_of(name, word)
        if not span.low < at <= span.high:
            raise Outside(word)
        first = self._with_span(name, word, Span(span.low, at - 1))
        return first, self._with_span(name, word, Span(at, span.high))

    def carried(self, order):
        """The outlook of another order in which each lag has the span of this one."""
        numbers = [self.order.number_of(item.name) for item in order.lineup]
        return outlook_with(order, [self._bounds[number] for number in numbers])

    def row_count(self):
        """The number of the rows."""
        count = 1
        for spans in self._bounds:
            for span in spans:
                count = count * span.size
        return count

    def first_row(self):
        """The row in which all lags are least."""
        return [tuple([span.low for span in spans]) for spans in self._bounds]

    def last_row(self):
        """The row in which all lags are greatest."""
        return [tuple([span.high for span in spans]) for spans in self._bounds]

    def rows(self):
        """Yields all rows, ascending."""
        if self.row_count() > MOST_ROWS:
            raise TooMany("rows", MOST_ROWS)
        found = [[]]
        for spans in self._bounds:
            found = [[*start, lags] for start in found for lags in lag_tuples(spans)]
        for row in found:
            yield row

    def lateness_of(self, row):
        """The sum of all lags of the row over the least ones of this outlook."""
        check_row(self.order, self._bounds, row)
        lows = [sum([span.low for span in spans]) for spans in self._bounds]
        return sum([sum(lags) for lags in row]) - sum(lows)

    def within(self, other):
        """True if every row of this outlook is a row of the other one."""
        if len(self._bounds) != len(other._bounds):
            return False
        return all([spans_within(spans, theirs)
                    for spans, theirs in zip(self._bounds, other._bounds)])

    def _find(self, name, word):
        number = self.order.number_of(name)
        for at, lag in enumerate(LAGS[:len(self._bounds[number])]):
            if lag == word:
                return number, at
        raise BadWord(word)

    def _with_span(self, name, word, span):
        number, at = self._find(name, word)
        spans = list(self._bounds[number])
        spans[at] = span
        bounds = list(self._bounds)
        bounds[number] = tuple(spans)
        return outlook_with(self.order, bounds)


def spans_within(spans, others):
    """True if there are as many spans, each within the other at its place."""
    if len(spans) != len(others):
        return False
    return all([span.within(other) for span, other in zip(spans, others)])
