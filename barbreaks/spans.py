"""Spans: all integers from a lowest to a highest one."""

from barbreaks.errors import Apart, BadSpan, NoSpans


def ends_of(term):
    """The lowest and the highest integer of a span, or an integer twice."""
    if isinstance(term, Span):
        return term.low, term.high
    return term, term


class Span:
    """The set of all integers from low to high, both included."""

    def __init__(self, low, high):
        if low > high:
            raise BadSpan(low, high)
        self.low = low
        self.high = high

    @property
    def size(self):
        """The number of the integers of the span."""
        return self.high - self.low + 1

    def within(self, other):
        """True if every integer of this span is in the other one."""
        return other.low <= self.low and self.high <= other.high

    def __add__(self, other):
        low, high = ends_of(other)
        return Span(self.low + low, self.high + high)

    def __radd__(self, other):
        return Span(other + self.low, other + self.high)

    def __sub__(self, other):
        low, high = ends_of(other)
        return Span(self.low - high, self.high - low)

    def __rsub__(self, other):
        return Span(other - self.high, other - self.low)

    def __neg__(self):
        return Span(-self.high, -self.low)

    def __and__(self, other):
        low = max(self.low, other.low)
        high = min(self.high, other.high)
        if low > high:
            raise Apart()
        return Span(low, high)

    def __or__(self, other):
        return Span(min(self.low, other.low), max(self.high, other.high))

    def __contains__(self, x):
        return self.low <= x <= self.high

    def __eq__(self, other):
        return isinstance(other, Span) and self.low == other.low and self.high == other.high


def hull(*spans):
    """The least span that contains all the given ones."""
    if len(spans) == 0:
        raise NoSpans()
    return Span(min([span.low for span in spans]), max([span.high for span in spans]))


def numbers_of(span):
    """The integers of a span, ascending."""
    return list(range(span.low, span.high + 1))
