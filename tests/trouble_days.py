"""Orders with each of the troubles, alone and together, and plain ways to troubles."""

from barbreaks.grids import Grid
from barbreaks.houses import House
from barbreaks.items import Break, Piece
from barbreaks.orders import Order
from tests.plan_days import fewest_numbers, most_taken, near_pairs
from tests.spot_days import days_of, plain_gaps, plain_places, sheet_exists

KINDS = ["cars", "soap"]


def stage(*, studios=2, crews=2, walk=(0, 1), pack=(0, 1), apart=4, patience=3, minute=None, kinds=KINDS):
    """A break, two pieces and a break; all is well with what is left out here.

    The breaks begin from 0 to 2 and from 10 to 18; the two pieces are near.
    """
    house = House(studios, crews, kinds, walk=walk, pack=pack, apart=apart)
    lineup = [Break("gap", grid=Grid(1), minute=0, places=2, unit=3, delay=2, patience=patience),
              Piece("one", grid=Grid(1), least=2, most=3), Piece("two", grid=Grid(1), least=2, most=3),
              Break("eve", grid=Grid(2), minute=10 if minute is None else minute, places=2, unit=3,
                    delay=4, patience=9)]
    return Order(house, 0, lineup)


def plain_word(order, counts):
    """The word and the name of the trouble, or None, by going through all rows."""
    days = days_of(order)
    for name in order.break_names():
        item = order[name]
        limit = item.grid.first_bar(item.minute) + (item.patience - 1) * item.grid.step
        if any(day["begin", name] > limit for day in days):
            return "swallowed", name
    names = order.piece_names()
    for name in names:
        if any(day["enter", name] > day["begin", name] for day in days):
            return "late", name
    for word, event, most in [("studios", "enter", order.house.studios), ("crews", "call", order.house.crews)]:
        count = fewest_numbers(names, near_pairs(order, days, event))
        if count > most:
            assert count == most_taken(order, days, event)
            return word, None
    numbers = [counts.get(kind, 0) for kind in order.house.kinds]
    if not sheet_exists(plain_gaps(order), len(plain_places(order)), numbers, order.house.apart):
        return "spots", None
    return None
