"""The least minute with which a break makes a plan safe."""

from barbreaks.errors import BadNumber, Unknown
from barbreaks.judging import weakest

MOST_LATER = 40


class Minute:
    """The least good minute, and a breach for each minute before it."""

    def __init__(self, minute, breaches):
        self.minute = minute
        self.breaches = list(breaches)


def least_minute(plan, name, low, high):
    """The least minute of the break, from low to high, with which the plan is safe."""
    if name not in plan.order.break_names():
        raise Unknown(name)
    if not low <= high <= low + MOST_LATER:
        raise BadNumber(high)
    breaches = []
    for minute in range(low, high + 1):
        breach = weakest(plan.with_order(plan.order.retimed(name, minute)))
        if breach is None:
            return Minute(minute, breaches)
        breaches.append(breach)
    return Minute(None, breaches)
