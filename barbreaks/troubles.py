"""Troubles: why no plan of an order holds."""

from barbreaks.crowds import fewest_crews, fewest_studios
from barbreaks.distances import nearest
from barbreaks.jams import check_jam, jam_of, kind_counts
from barbreaks.outlooks import Outlook
from barbreaks.reach import Reach
from barbreaks.runs import run

SWALLOWED = "swallowed"
LATE = "late"
STUDIOS = "studios"
CREWS = "crews"
SPOTS = "spots"


class Trouble:
    """A reason for which no plan holds, and what shows it."""

    def __init__(self, word, *, name=None, row=None, moment=None, jam=None):
        self.word = word
        self.name = name
        self.row = None if row is None else list(row)
        self.moment = moment
        self.jam = jam


def is_swallowed(day, name):
    """True if the break begins later than its limit in the run."""
    return day.moment_of(("begin", name)) > day.order[name].limit


def is_late(day, name):
    """True if the crew of the piece enters later than the piece begins in the run."""
    return day.moment_of(("enter", name)) > day.moment_of(("begin", name))


def swallowed_break(order):
    """The trouble of the first break that may begin after its limit, None if there is none."""
    # Nothing begins later than with the greatest lags.
    row = Outlook(order).last_row()
    day = run(order, row)
    for name in order.break_names():
        if is_swallowed(day, name):
            return Trouble(SWALLOWED, name=name, row=row)
    return None


def late_crew(order):
    """The trouble of the first piece whose crew may be late, None if there is none."""
    reach = Reach(Outlook(order))
    for name in order.piece_names():
        found = nearest(reach, ("enter", name), ("begin", name))
        if found.ticks < 0:
            return Trouble(LATE, name=name, row=found.row)
    return None


def crowd_trouble(word, crowd, count):
    """The trouble of a crowd that needs more than the count, None if it does not."""
    if crowd.count <= count:
        return None
    return Trouble(word, row=crowd.row, moment=crowd.moment)


def order_trouble(order):
    """The trouble of an order without spots, None if there is none."""
    found = swallowed_break(order)
    if found is None:
        found = late_crew(order)
    if found is None:
        found = crowd_trouble(STUDIOS, fewest_studios(order), order.house.studios)
    if found is None:
        found = crowd_trouble(CREWS, fewest_crews(order), order.house.crews)
    return found


def trouble(order, counts):
    """The first reason for which no plan holds, None if some plan does."""
    kind_counts(order.house, counts)
    found = order_trouble(order)
    if found is not None:
        return found
    jam = jam_of(order, counts)
    return None if jam is None else Trouble(SPOTS, jam=jam)


def check_row_trouble(order, trouble):
    """True if the row of the trouble shows what its word says."""
    if trouble.row is None or trouble.row not in Outlook(order):
        return False
    day = run(order, trouble.row)
    if trouble.word == SWALLOWED:
        return trouble.name in order.break_names() and is_swallowed(day, trouble.name)
    if trouble.word == LATE:
        return trouble.name in order.piece_names() and is_late(day, trouble.name)
    if trouble.moment is None:
        return False
    if trouble.word == STUDIOS:
        return len(day.inside(trouble.moment)) > order.house.studios
    return trouble.word == CREWS and len(day.bound(trouble.moment)) > order.house.crews


def check_trouble(order, counts, trouble):
    """True if the trouble shows that no plan of the order holds for the counts."""
    kind_counts(order.house, counts)
    if trouble.word == SPOTS:
        return trouble.jam is not None and check_jam(order, counts, trouble.jam)
    return check_row_trouble(order, trouble)
