"""Plans: a studio and a crew for each piece and spots for the places, ahead of the day."""

from barbreaks.bands import check_from_zero
from barbreaks.demands import Demand
from barbreaks.errors import Missing, Unknown
from barbreaks.items import Break
from barbreaks.sheets import Sheet


def check_numbers(order, numbers, count):
    """Refuses numbers that are not one for each piece, each of them less than the count."""
    names = order.piece_names()
    for name in numbers:
        if name not in names:
            raise Unknown(name)
    for name in names:
        if name not in numbers:
            raise Missing(name)
        check_from_zero(numbers[name], count - 1)


def item_demand(order, item):
    """A break must not be swallowed, and the crew of a piece must not be late."""
    begin = ("begin", item.name)
    if isinstance(item, Break):
        return Demand("swallowed", begin, ("opens",), order.opens - item.limit)
    return Demand("late", ("enter", item.name), begin, 0)


def pair_demands(plan, first, second):
    """The crew and the studio of two pieces must not be needed by both at once."""
    out = ("out", first)
    found = []
    if plan.crews[first] == plan.crews[second]:
        found.append(Demand("busy", out, ("call", second), 0))
    if plan.studios[first] == plan.studios[second]:
        found.append(Demand("meet", out, ("enter", second), 0))
    return found


def spot_demands(sheet):
    """Each spot must keep its distance from the next one of its kind."""
    spots = list(sheet)
    found = []
    for at, (name, place, kind) in enumerate(spots):
        rivals = [spot for spot in spots[at + 1:] if spot[2] == kind]
        if rivals != []:
            later = ("place", rivals[0][0], rivals[0][1])
            found.append(Demand("near", ("place", name, place), later, sheet.order.house.apart))
    return found


class Plan:
    """A studio and a crew for each piece of an order, and a sheet of spots."""

    def __init__(self, order, *, studios, crews, spots=None):
        check_numbers(order, studios, order.house.studios)
        check_numbers(order, crews, order.house.crews)
        self.sheet = Sheet(order, {} if spots is None else spots)
        self.order = order
        self.studios = {name: studios[name] for name in order.piece_names()}
        self.crews = {name: crews[name] for name in order.piece_names()}

    def with_studio(self, name, studio):
        """The plan with this studio for the piece."""
        studios = {**self.studios, name: studio}
        return Plan(self.order, studios=studios, crews=self.crews, spots=entries_in(self.sheet))

    def with_crew(self, name, crew):
        """The plan with this crew for the piece."""
        crews = {**self.crews, name: crew}
        return Plan(self.order, studios=self.studios, crews=crews, spots=entries_in(self.sheet))

    def with_spot(self, name, place, kind):
        """The plan with this entry at the place."""
        spots = entries_in(self.sheet.put(name, place, kind))
        return Plan(self.order, studios=self.studios, crews=self.crews, spots=spots)

    def with_order(self, order):
        """The plan for another order with the same names."""
        spots = entries_in(self.sheet)
        return Plan(order, studios=self.studios, crews=self.crews, spots=spots)

    def demands(self):
        """All that must hold in a row for the plan to hold in it."""
        found = [item_demand(self.order, item) for item in self.order.lineup]
        names = self.order.piece_names()
        for at, first in enumerate(names):
            for second in names[at + 1:]:
                found.extend(pair_demands(self, first, second))
        return found + spot_demands(self.sheet)


def entries_in(sheet):
    """The entries of all breaks of a sheet, by their names."""
    return {name: sheet.entries_of(name) for name in sheet.order.break_names()}
