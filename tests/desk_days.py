"""A day for a desk, and a plain desk that goes through all rows that can still come."""

import random

from barbreaks.desks import Desk
from barbreaks.grids import Grid
from barbreaks.houses import House
from barbreaks.items import Break, Piece
from barbreaks.orders import Order
from barbreaks.plans import Plan
from barbreaks.troubles import trouble
from tests.helpers import (count_rows, lags_of, outlook_bounds, plain_bounds, plain_events,
                           rows_within)
from tests.plan_days import is_kept, plan_state, words_of


def desk_order():
    """A break, a piece, a break and two pieces.

    noon begins from 2 to 4 and ends from 12 to 14, talk ends from 18 to 22, eve
    begins at 20 or 25 and ends at 28 or 33; song and tune follow.
    """
    house = House(3, 3, ["cars", "soap"], walk=(0, 2), pack=(0, 3), apart=14)
    lineup = [Break("noon", grid=Grid(1), minute=2, places=2, unit=5, delay=2, patience=3),
              Piece("talk", grid=Grid(1), least=6, most=8),
              Break("eve", grid=Grid(5), minute=20, places=2, unit=4, patience=2),
              Piece("song", grid=Grid(1), least=4, most=5, delay=1),
              Piece("tune", grid=Grid(1), least=3, most=3)]
    return Order(house, 0, lineup)


def desk_plan():
    return Plan(desk_order(), studios={"talk": 0, "song": 1, "tune": 2},
                crews={"talk": 0, "song": 1, "tune": 2},
                spots={"noon": ["cars", None], "eve": ["cars", "soap"]})


def calm_orders(seed, count, most_rows):
    """Small orders without trouble, in which some changes can be made and others cannot."""
    rng = random.Random(seed)
    found = []
    while len(found) < count:
        order = calm_order(rng)
        if count_rows(plain_bounds(order)) <= most_rows and trouble(order, {}) is None:
            found.append(order)
    return found


def calm_order(rng):
    house = House(rng.randint(2, 3), rng.randint(2, 3), ["cars", "soap"], pack=(0, rng.randrange(3)),
                  walk=(0, rng.randrange(2)), ahead=rng.randint(1, 2), apart=rng.randint(1, 9))
    lineup = []
    for number in range(rng.randint(1, 5)):
        grid = Grid(rng.choice([1, 1, 2, 3]))
        delay = rng.choice([0, 0, 1])
        if rng.random() < 0.5:
            lineup.append(Break(f"x{number}", grid=grid, minute=7 * number, places=2, delay=delay,
                                unit=rng.randint(2, 5), patience=rng.randint(2, 9)))
        else:
            least = rng.randint(2, 6)
            lineup.append(Piece(f"x{number}", grid=grid, least=least, delay=delay,
                                most=least + rng.choice([0, 1, 2])))
    return Order(house, 0, lineup)


def a_desk(*deeds):
    """A desk at which these deeds were done."""
    desk = Desk(desk_plan())
    for word, *rest in deeds:
        getattr(desk, word)(*rest)
    return desk


def state_of(desk):
    """All that a desk tells."""
    order = desk.plan.order
    bounds = outlook_bounds(desk.outlook)
    return (words_of(order), plan_state(desk.plan), words_of(desk.outlook.order), bounds, desk.point,
            list(desk.moments), list(desk.deeds), list(desk), desk.left(), desk.margin(), desk.spacing,
            told_of(desk))


def told_of(desk):
    """Which lags can no longer be expected: a desk of the same deeds is asked about each."""
    found = []
    for name, word in lags_of(desk.plan.order):
        span = desk.outlook.span_of(name, word)
        try:
            desk.expect(name, word, span.low, span.high)
        except ValueError as error:
            found.append((name, word, type(error).__name__))
        else:
            desk.undo()
    return found


def days_left(plan, outlook):
    """The moments of all events in all rows of the outlook, with the lineup of the plan."""
    bounds = dict(zip([item.name for item in outlook.order], outlook_bounds(outlook)))
    return [plain_events(plan.order, row)
            for row in rows_within([bounds[item.name] for item in plan.order])]


def keeps(plan, outlook):
    """True if every row that can still come keeps the plan."""
    return all(is_kept(plan, day) for day in days_left(plan, outlook))
