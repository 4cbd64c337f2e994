"""The lateness of the weakest breach of a plan, found by trying all rows."""

from barbreaks.outlooks import Outlook
from barbreaks.runs import run


def is_broken(order, demands, row):
    """True if one of the demands is not kept in the row."""
    day = run(order, row)
    return any([not demand.kept(day) for demand in demands])


def plain_weakest(plan, outlook=None):
    """The least lateness of a row in which the plan is broken, None if there is none."""
    tried = Outlook(plan.order) if outlook is None else outlook
    demands = plan.demands()
    broken = [row for row in tried.rows() if is_broken(plan.order, demands, row)]
    return min([tried.lateness_of(row) for row in broken], default=None)
