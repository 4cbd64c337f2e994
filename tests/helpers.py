"""What the tests share: refusals, sample days, and slow but plain ways to the answers."""

import itertools
import random
import unittest

from barbreaks.errors import BarbreaksError
from barbreaks.grids import Grid
from barbreaks.houses import House
from barbreaks.items import Break, Piece
from barbreaks.orders import Order

WORDS = ("delay", "length", "walk", "pack")

ARGUMENTS = {
    "BadName": ("name",), "BadNumber": ("number",), "BadText": ("text",),
    "BadSpan": ("low", "high"), "Apart": (), "NoSpans": (), "TooMany": ("what", "most"),
    "Twice": ("name",), "Unknown": ("name",), "Missing": ("name",), "BadSize": ("count",),
    "BadRow": ("name",), "BadEvent": ("event",), "BadWord": ("word",), "Outside": ("word",),
    "NoPoint": ("point",), "NotReached": ("point", "moment"), "BadEnd": ("index",),
    "NoRoom": ("many", "over"), "Jammed": ("jam",), "Troubled": ("trouble",),
    "BadLine": ("number",),
}

REFUSALS = {
    "Unsafe": ("breach",), "OnAir": ("name",), "OffAir": (), "NoItem": (), "NotYet": ("name",),
    "Told": ("name",), "Begun": ("name",), "NothingToUndo": (),
}


class Case(unittest.TestCase):
    """A test case that can tell which error a call must raise."""

    def refuses(self, expected, call, *args, **kwargs):
        """The call raises an error of the class of `expected`, with its attributes."""
        with self.assertRaises(BarbreaksError) as caught:
            call(*args, **kwargs)
        self.assertIs(type(caught.exception), type(expected))
        for name in {**ARGUMENTS, **REFUSALS}[type(expected).__name__]:
            self.assertEqual(getattr(caught.exception, name), getattr(expected, name))


def a_house(**more):
    """A house in which all bounds of the ways are different."""
    told = {"walk": (1, 2), "pack": (3, 5), "ahead": 1, "apart": 14, **more}
    return House(3, 4, ["cars", "soap"], **told)


def a_piece(name, **more):
    told = {"grid": Grid(1), "least": 4, "most": 6, **more}
    return Piece(name, **told)


def a_break(name, **more):
    told = {"grid": Grid(10), "minute": 5, "places": 2, "unit": 5, **more}
    return Break(name, **told)


def an_order():
    """A break, two pieces and a break; some lags are fixed, most are not."""
    lineup = [
        a_break("noon", delay=1),
        a_piece("talk", grid=Grid(3, 1), delay=2),
        a_piece("song", grid=Grid(4, 3), least=7, most=7, minute=28, delay=1),
        a_break("eve", grid=Grid(6), minute=40, places=3, unit=4, patience=2),
    ]
    return Order(a_house(), 2, lineup)


def doc_order():
    """The order of the examples of the document."""
    house = House(2, 2, ["cars"], walk=(1, 2), pack=(0, 1), apart=14)
    noon = Break("noon", grid=Grid(10), minute=5, places=2, unit=5)
    talk = Piece("talk", grid=Grid(1), least=4, most=6)
    eve = Break("eve", grid=Grid(10), minute=20, places=2, unit=5, patience=2)
    return Order(house, 0, [noon, talk, eve])


def many_orders(seed, count, most_rows):
    """Small orders of many shapes, the same ones for the same seed."""
    rng = random.Random(seed)
    found = []
    while len(found) < count:
        order = some_order(rng)
        if count_rows(plain_bounds(order)) <= most_rows:
            found.append(order)
    return found


def some_order(rng):
    walk = rng.randrange(4)
    pack = rng.randrange(4)
    house = House(2, 2, ["cars"], walk=(walk, walk + rng.choice([0, 0, 1, 2])),
                  pack=(pack, pack + rng.choice([0, 0, 1, 2])), ahead=rng.randint(1, 3))
    lineup = [some_item(rng, f"x{number}") for number in range(rng.randrange(6))]
    return Order(house, rng.randint(-30, 30), lineup)


def some_item(rng, name):
    grid = Grid(rng.choice([1, 1, 2, 3, 4, 5, 6, 7, 10, 15]), rng.randrange(20))
    delay = rng.choice([0, 0, 1, 2, 4])
    minute = rng.choice([None, rng.randint(-30, 70)])
    if rng.random() < 0.35:
        return Break(name, grid=grid, minute=minute or 3, places=rng.randint(1, 3),
                     unit=rng.randint(1, 6), delay=delay)
    least = rng.randint(1, 12)
    most = least + rng.choice([0, 1, 2, 4])
    return Piece(name, grid=grid, minute=minute, least=least, most=most, delay=delay)


def narrowed_at_random(outlook, seed):
    """The outlook with about half of its lags narrowed."""
    rng = random.Random(seed)
    for name, word in lags_of(outlook.order):
        span = outlook.span_of(name, word)
        if rng.random() < 0.5:
            low = rng.randint(span.low, span.high)
            outlook = outlook.narrowed(name, word, low, rng.randint(low, span.high))
    return outlook


def lags_of(order):
    """The pairs (name, word) of all lags of an order."""
    found = []
    for item in order.lineup:
        words = WORDS if isinstance(item, Piece) else WORDS[:1]
        found.extend((item.name, word) for word in words)
    return found


def plain_bounds(order):
    """For each item the pairs (least, greatest) of its lags, from its attributes."""
    house = order.house
    found = []
    for item in order.lineup:
        bounds = [(0, item.delay)]
        if isinstance(item, Piece):
            bounds.append((item.least, item.most))
            bounds.append((house.walk.low, house.walk.high))
            bounds.append((house.pack.low, house.pack.high))
        found.append(bounds)
    return found


def outlook_bounds(outlook):
    """For each item the pairs (least, greatest) of its lags in an outlook."""
    found = []
    for item in outlook.order.lineup:
        words = WORDS if isinstance(item, Piece) else WORDS[:1]
        spans = [outlook.span_of(item.name, word) for word in words]
        found.append([(span.low, span.high) for span in spans])
    return found


def count_rows(bounds):
    """The number of the rows with their lags in these bounds."""
    count = 1
    for pairs in bounds:
        for low, high in pairs:
            count *= high - low + 1
    return count


def rows_within(bounds):
    """All rows with their lags in these bounds, ascending."""
    tuples = [list(itertools.product(*[range(low, high + 1) for low, high in pairs]))
              for pairs in bounds]
    return [list(row) for row in itertools.product(*tuples)]


def plain_moments(order, row):
    """The moments of all points, tick by tick."""
    moments = [order.opens]
    for item, lags in zip(order.lineup, row):
        tick = moments[-1] if item.minute is None else max(moments[-1], item.minute)
        tick += lags[0]
        while (tick - item.grid.offset) % item.grid.step != 0:
            tick += 1
        moments.append(tick)
        moments.append(tick + (lags[1] if isinstance(item, Piece) else item.places * item.unit))
    return moments


def plain_events(order, row):
    """A dict from all events, in their order, to their moments."""
    moments = plain_moments(order, row)
    found = {("opens",): order.opens}
    for number, item in enumerate(order.lineup):
        begin, end = moments[2 * number + 1], moments[2 * number + 2]
        found["begin", item.name] = begin
        found["end", item.name] = end
        if isinstance(item, Break):
            for place in range(item.places):
                found["place", item.name, place] = begin + place * item.unit
        else:
            before = number - order.house.ahead
            call = order.opens if before < 0 else moments[2 * before + 1]
            found["call", item.name] = call
            found["enter", item.name] = call + row[number][2]
            found["out", item.name] = end + row[number][3]
    return found


def lateness_before(bounds, row, point):
    """The delays and lengths on which the point depends, over their least values."""
    late = 0
    for number, (pairs, lags) in enumerate(zip(bounds, row)):
        if point >= 2 * number + 1:
            late += lags[0] - pairs[0][0]
        if point >= 2 * number + 2 and len(pairs) > 1:
            late += lags[1] - pairs[1][0]
    return late


def plain_tables(outlook):
    """The tables of all points, by going through all rows."""
    order = outlook.order
    bounds = outlook_bounds(outlook)
    found = [{} for _ in range(2 * len(order.lineup) + 1)]
    for row in rows_within(bounds):
        for point, moment in enumerate(plain_moments(order, row)):
            late = lateness_before(bounds, row, point)
            found[point][moment] = min(late, found[point].get(moment, late))
    return [sorted(table.items()) for table in found]


def wide_order(steps, *, opens=0, breaks=(), least=5, minute=None):
    """Eight items with the widest bounds of lags; `breaks` are the numbers of the breaks."""
    house = House(2, 2, walk=(0, 8), pack=(2, 10), ahead=2)
    lineup = []
    for number, step in enumerate(steps):
        grid = Grid(step, 3 * number)
        if number in breaks:
            lineup.append(Break(f"x{number}", grid=grid, minute=number, places=2, unit=7, delay=8))
        else:
            lineup.append(Piece(f"x{number}", grid=grid, least=least, most=least + 8,
                                minute=minute, delay=8))
    return Order(house, opens, lineup)
