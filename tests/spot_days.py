"""Small orders with breaks, and plain ways to what can be near in them."""

import random

from barbreaks.grids import Grid
from barbreaks.houses import House
from barbreaks.items import Break, Piece
from barbreaks.orders import Order
from barbreaks.sheets import Sheet
from tests.helpers import count_rows, plain_bounds, plain_events, rows_within

KINDS = ["cars", "soap", "tea"]


def near_order(apart):
    """Two breaks of two places; only after a talk of 4 ticks are noon and eve 9 ticks apart."""
    house = House(2, 2, KINDS, walk=(1, 2), pack=(0, 1), apart=apart)
    noon = Break("noon", grid=Grid(10), minute=5, places=2, unit=5)
    talk = Piece("talk", grid=Grid(1), least=4, most=6)
    eve = Break("eve", grid=Grid(1), minute=0, places=2, unit=5)
    return Order(house, 0, [noon, talk, eve])


def row_of(length):
    """A row of `near_order` in which the talk has this length."""
    return [(0,), (0, length, 1, 0), (0,)]


def break_order(*sizes, apart=1, unit=3, kinds=KINDS):
    """An order of breaks alone, with so many places each."""
    lineup = [Break(f"x{number}", grid=Grid(2), minute=0, places=size, unit=unit)
              for number, size in enumerate(sizes)]
    return Order(House(1, 1, kinds, apart=apart), 0, lineup)


def spot_orders(seed, count, most_rows, most_places):
    """Orders with some places and few rows, the same ones for the same seed."""
    rng = random.Random(seed)
    found = []
    while len(found) < count:
        order = spot_order(rng)
        places = sum(order[name].places for name in order.break_names())
        if count_rows(plain_bounds(order)) <= most_rows and places <= most_places:
            found.append(order)
    return found


def spot_order(rng):
    house = House(2, 2, KINDS[:rng.randint(1, 3)], apart=rng.randint(1, 30))
    lineup = [spot_item(rng, f"x{number}") for number in range(rng.randint(1, 5))]
    return Order(house, rng.randint(-10, 10), lineup)


def spot_item(rng, name):
    grid = Grid(rng.choice([1, 1, 2, 3, 5, 8]), rng.randrange(9))
    delay = rng.choice([0, 0, 1, 2])
    minute = rng.randint(-10, 40)
    if rng.random() < 0.7:
        return Break(name, grid=grid, minute=minute, places=rng.randint(1, 3),
                     unit=rng.randint(1, 7), delay=delay)
    least = rng.randint(1, 9)
    return Piece(name, grid=grid, least=least, most=least + rng.choice([0, 2]), delay=delay,
                 minute=rng.choice([None, minute]))


def plain_places(order):
    return [(name, place) for name in order.break_names() for place in range(order[name].places)]


def days_of(order):
    """The moments of all events in all rows."""
    return [plain_events(order, row) for row in rows_within(plain_bounds(order))]


def plain_gaps(order):
    """For each two places, by their numbers, the least distance in all rows."""
    found = plain_places(order)
    days = days_of(order)
    return {(i, k): min(day["place", *found[k]] - day["place", *found[i]] for day in days)
            for i in range(len(found)) for k in range(i, len(found))}


def sheet_exists(gaps, count, numbers, apart):
    """True if so many places can have the numbers of spots of each kind, by trying."""
    starts = [[]]
    for thing in range(count):
        starts = [[*start, entry] for start in starts for entry in [None, *range(len(numbers))]
                  if entry is None or not any(
                      other == entry and gaps[at, thing] < apart for at, other in enumerate(start))]
    return any(all(start.count(index) == number for index, number in enumerate(numbers))
               for start in starts)


def holds(order, sheet, apart):
    """True if any two spots of one kind keep the distance in all rows."""
    gaps = plain_gaps(order)
    numbers = {place: number for number, place in enumerate(plain_places(order))}
    spots = list(sheet)
    return not any(kind == other and gaps[numbers[name, at], numbers[later, place]] < apart
                   for number, (name, at, kind) in enumerate(spots)
                   for later, place, other in spots[number + 1:])


def entries_of(sheet):
    """All entries of a sheet, break by break."""
    assert type(sheet) is Sheet
    return {name: sheet.entries_of(name) for name in sheet.order.break_names()}
