"""The events of an order and the points on which they hang."""

from barbreaks.errors import BadEvent
from barbreaks.items import Break


def events_of(item):
    """The events of one item."""
    name = item.name
    found = [("begin", name), ("end", name)]
    if isinstance(item, Break):
        return found + [("place", name, place) for place in range(item.places)]
    return found + [("call", name), ("enter", name), ("out", name)]


def all_events(order):
    """The events of an order, item by item."""
    found = [("opens",)]
    for item in order.lineup:
        found.extend(events_of(item))
    return found


def point_of(order, event):
    """The point on which an event hangs."""
    if event not in all_events(order):
        raise BadEvent(event)
    word = event[0]
    if word == "opens":
        return 0
    if word == "call" or word == "enter":
        return order.call_of(event[1])
    if word == "end" or word == "out":
        return order.end_of(event[1])
    return order.begin_of(event[1])
