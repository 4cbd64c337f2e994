"""Making a plan that holds, where there is one."""

from barbreaks.errors import Troubled
from barbreaks.giving import give_crews, give_studios
from barbreaks.judging import weakest
from barbreaks.plans import Plan, entries_in
from barbreaks.spots import lay_spots
from barbreaks.troubles import trouble


def make_plan(order, counts):
    """A plan of the order that holds for the counts."""
    found = trouble(order, counts)
    if found is not None:
        raise Troubled(found)
    spots = entries_in(lay_spots(order, counts))
    return Plan(order, studios=give_studios(order), crews=give_crews(order), spots=spots)


def holds(plan, counts):
    """True if the plan has exactly these counts of spots and is safe in the full outlook."""
    found = plan.sheet.counts()
    same = [found.get(kind, 0) == counts.get(kind, 0) for kind in [*found, *counts]]
    return all(same) and weakest(plan) is None
