"""Charts: when the items of an order can begin and end."""

from barbreaks.items import Break
from barbreaks.words import write_number

WIDTH = 12


def chart_line(reach, item):
    """The line of one item."""
    order = reach.outlook.order
    begin = reach.span_at(order.begin_of(item.name))
    end = reach.span_at(order.end_of(item.name))
    word = "break" if isinstance(item, Break) else "piece"
    moments = [begin.low, begin.high, end.low, end.high]
    columns = [write_number(moment).rjust(WIDTH) for moment in moments]
    return " ".join([item.name.ljust(WIDTH), word, *columns])


def chart(reach):
    """A line for each item, with its earliest and latest begin and end."""
    return [chart_line(reach, item) for item in reach.outlook.order.lineup]
