"""Judging a plan: whether all its demands are kept in all rows of an outlook."""

from barbreaks.breaches import breaker
from barbreaks.demands import margin
from barbreaks.outlooks import Outlook
from barbreaks.reach import Reach
from barbreaks.words import write_number


class Verdict:
    """What was found out about a plan."""

    def __init__(self, plan):
        self.plan = plan

    def line(self):
        """How many demands the plan has."""
        return f"{write_number(len(self.plan.demands()))} demands"


class Safe(Verdict):
    """All demands of the plan are kept in all rows."""

    def __init__(self, plan, leasts, tables):
        Verdict.__init__(self, plan)
        self.margins = list(leasts)
        self.tables = list(tables)

    def __bool__(self):
        return True

    def line(self):
        """How many demands the plan has, and by how much all of them are kept."""
        start = super().line()
        if self.margins == []:
            return f"{start}, safe"
        return f"{start}, safe by {write_number(min(self.margins))}"


class Broken(Verdict):
    """Some demand of the plan is not kept in some row."""

    def __init__(self, plan, breach):
        Verdict.__init__(self, plan)
        self.breach = breach

    def __bool__(self):
        return False

    def line(self):
        """How many demands the plan has, and which one is broken how early."""
        start = super().line()
        lateness = write_number(self.breach.lateness)
        return f"{start}, {self.breach.demand.word} broken at lateness {lateness}"


def reach_of(plan, outlook):
    """The tables of the outlook, of the full one of the order if it is None."""
    return Reach(Outlook(plan.order) if outlook is None else outlook)


def weakest_in(plan, reach):
    """The breach of the least lateness of all demands, None if the plan is safe."""
    least = None
    for demand in plan.demands():
        # A margin is found much faster than a breach, and most demands are kept.
        if margin(reach, demand) < 0:
            found = breaker(reach, demand)
            if least is None or found.lateness < least.lateness:
                least = found
    return least


def margins(plan, outlook=None):
    """The least margins of all demands of the plan."""
    reach = reach_of(plan, outlook)
    return [margin(reach, demand) for demand in plan.demands()]


def judge(plan, outlook=None):
    """Whether the plan is safe in the outlook, with what shows it."""
    reach = reach_of(plan, outlook)
    breach = weakest_in(plan, reach)
    if breach is not None:
        return Broken(plan, breach)
    return Safe(plan, [margin(reach, demand) for demand in plan.demands()], reach.tables)


def weakest(plan, outlook=None):
    """The breach of the plan that comes with the least lateness, None if it is safe."""
    return weakest_in(plan, reach_of(plan, outlook))
