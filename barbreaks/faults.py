"""Faults: what of a plan is not kept in one row."""

from barbreaks.runs import run


def faults(plan, row):
    """The demands of the plan that are not kept in the row, with their margins in it."""
    day = run(plan.order, row)
    return [(demand.word, demand.first, demand.second, demand(day))
            for demand in plan.demands() if not demand.kept(day)]
