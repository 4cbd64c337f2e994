"""Small orders for plans, and plain ways to what holds in them."""

import itertools
import random

from barbreaks.grids import Grid
from barbreaks.houses import House
from barbreaks.items import Break, Piece
from barbreaks.orders import Order
from barbreaks.plans import Plan
from tests.helpers import count_rows, outlook_bounds, plain_bounds, plain_events, rows_within

KINDS = ["cars", "soap"]


def plan_orders(seed, count, most_rows):
    """Small orders of pieces and breaks, the same ones for the same seed."""
    rng = random.Random(seed)
    found = []
    while len(found) < count:
        order = plan_order(rng)
        if count_rows(plain_bounds(order)) <= most_rows:
            found.append(order)
    return found


def plan_order(rng):
    walk, pack = rng.randrange(4), rng.randrange(5)
    house = House(rng.randint(1, 3), rng.randint(1, 3), KINDS[:rng.randrange(3)],
                  walk=(walk, walk + rng.choice([0, 0, 1])), pack=(pack, pack + rng.choice([0, 0, 2])),
                  ahead=rng.randint(1, 3), apart=rng.randint(1, 12))
    lineup = []
    for number in range(rng.randrange(6)):
        lineup.append(plan_item(rng, f"x{number}", 6 * number))
    return Order(house, rng.randint(-3, 3), lineup)


def plan_item(rng, name, minute):
    grid = Grid(rng.choice([1, 1, 2, 3, 5]), rng.randrange(5))
    delay = rng.choice([0, 0, 0, 1, 2])
    if rng.random() < 0.4:
        return Break(name, grid=grid, minute=minute, places=rng.randint(1, 3), delay=delay,
                     unit=rng.randint(1, 5), patience=rng.randint(1, 8))
    least = rng.randint(1, 7)
    return Piece(name, grid=grid, least=least, most=least + rng.choice([0, 0, 1, 3]), delay=delay,
                 minute=rng.choice([None, minute]))


def some_plan(order, rng):
    """Any plan of the order, good or not."""
    names = order.piece_names()
    kinds = [None, *order.house.kinds]
    spots = {name: [rng.choice(kinds) for _ in range(order[name].places)]
             for name in order.break_names()}
    return Plan(order, studios={name: rng.randrange(order.house.studios) for name in names},
                crews={name: rng.randrange(order.house.crews) for name in names}, spots=spots)


def every_giving(names, count):
    """All dicts from the names to numbers less than the count."""
    for numbers in itertools.product(range(count), repeat=len(names)):
        yield dict(zip(names, numbers))


def every_sheet(order):
    """All dicts of the entries of all breaks."""
    names = order.break_names()
    kinds = [None, *order.house.kinds]
    sheets = [itertools.product(kinds, repeat=order[name].places) for name in names]
    for entries in itertools.product(*sheets):
        yield dict(zip(names, entries))


def counts_in(order, spots):
    """How often each kind of the house stands in a dict of entries."""
    found = [entry for entries in spots.values() for entry in entries]
    return {kind: found.count(kind) for kind in order.house.kinds}


def fewest_numbers(names, near):
    """The least number of numbers so that near names have different ones, by trying."""
    count = 0
    while not any(all(giving[one] != giving[other] for one, other in near)
                  for giving in every_giving(names, count)):
        count += 1
    return count


def near_pairs(order, days, word):
    """The pairs of pieces with this event of the second before the crew of the first is out."""
    names = order.piece_names()
    return [(one, other) for one, other in itertools.combinations(names, 2)
            if any(day[word, other] < day["out", one] for day in days)]


def taken(order, day, word, moment):
    """The pieces whose crew is taken at the moment, from the event of this word on."""
    return [name for name in order.piece_names() if day[word, name] <= moment < day["out", name]]


def most_taken(order, days, word):
    """The greatest number of crews that are taken at once in some row."""
    names = order.piece_names()
    return max((len(taken(order, day, word, day[word, name])) for day in days for name in names),
               default=0)


def demand_tuples(plan):
    """The demands of a plan as tuples, from what the document says of them."""
    order = plan.order
    found = []
    for item in order.lineup:
        name = item.name
        if name in order.break_names():
            limit = item.grid.first_bar(item.minute) + (item.patience - 1) * item.grid.step
            found.append(("swallowed", ("begin", name), ("opens",), order.opens - limit))
        else:
            found.append(("late", ("enter", name), ("begin", name), 0))
    for one, other in itertools.combinations(order.piece_names(), 2):
        if plan.crews[one] == plan.crews[other]:
            found.append(("busy", ("out", one), ("call", other), 0))
        if plan.studios[one] == plan.studios[other]:
            found.append(("meet", ("out", one), ("enter", other), 0))
    last = {}
    rivals = []
    for name in order.break_names():
        for place in range(order[name].places):
            kind = plan.sheet[name, place]
            if kind in last:
                rivals.append((last[kind], (name, place)))
            if kind is not None:
                last[kind] = (name, place)
    places = [(name, place) for name in order.break_names() for place in range(order[name].places)]
    for before, after in sorted(rivals, key=lambda pair: places.index(pair[0])):
        found.append(("near", ("place", *before), ("place", *after), order.house.apart))
    return found


def margin_in(day, demand):
    """The margin of a demand, as a tuple, in a row."""
    _, first, second, ticks = demand
    return day[second] - day[first] - ticks


def is_kept(plan, day):
    """True if all demands of the plan are kept in a row."""
    return all(margin_in(day, demand) >= 0 for demand in demand_tuples(plan))


def late_days(outlook):
    """Triples (lateness, row, events) of all rows of an outlook, the least lateness first."""
    bounds = outlook_bounds(outlook)
    low = sum(least for pairs in bounds for least, _ in pairs)
    found = [(sum(sum(lags) for lags in row) - low, row, plain_events(outlook.order, row))
             for row in rows_within(bounds)]
    return sorted(found, key=lambda triple: triple[0])


def plain_lateness(plan, outlook):
    """The least lateness of a row in which the plan is broken, by trying, or None."""
    demands = demand_tuples(plan)
    for lateness, _, day in late_days(outlook):
        if any(margin_in(day, demand) < 0 for demand in demands):
            return lateness
    return None


def plan_state(plan):
    """All that a plan says, but for its order."""
    sheet = plan.sheet
    return (list(plan.studios.items()), list(plan.crews.items()),
            [sheet.entries_of(name) for name in sheet.order.break_names()])


def words_of(order):
    """All that an order says."""
    house = order.house
    return [house.studios, house.crews, house.kinds, (house.walk.low, house.walk.high),
            (house.pack.low, house.pack.high), house.ahead, house.apart, order.opens,
            *[item.words() for item in order]]
