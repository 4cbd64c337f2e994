"""Diaries: the events of a run as they come."""

from barbreaks.events import all_events


def diary(day):
    """Yields (moment, event) for each event, by ascending moments."""
    events = all_events(day.order)
    # The number keeps events of equal moments in the order of all_events.
    timed = [(day.moment_of(event), number) for number, event in enumerate(events)]
    for moment, number in sorted(timed):
        yield moment, events[number]
