"""Orders: a day of a house, item by item, and its points."""

from barbreaks.errors import BadNumber, TooMany, Twice, Unknown
from barbreaks.items import Break, Piece, with_times

MOST_ITEMS = 8
MOST_PLACES_IN_ALL = 30


def check_lineup(lineup):
    """Refuses too many items, a name that stands twice, and too many places."""
    if len(lineup) > MOST_ITEMS:
        raise TooMany("items", MOST_ITEMS)
    seen = {}
    for item in lineup:
        if item.name in seen:
            raise Twice(item.name)
        seen[item.name] = True
    if sum([item.places for item in lineup if isinstance(item, Break)]) > MOST_PLACES_IN_ALL:
        raise TooMany("places", MOST_PLACES_IN_ALL)


def moved_item(item, ticks):
    """The item with its minute and the bars of its grid later by these ticks."""
    minute = None if item.minute is None else item.minute + ticks
    return with_times(item, item.grid + ticks, minute)


class Order:
    """A day of the house: items that go on the air one after another."""

    def __init__(self, house, opens, lineup):
        check_lineup(lineup)
        self.house = house
        self.opens = opens
        self.lineup = tuple(lineup)
        self._numbers = {item.name: number for number, item in enumerate(lineup)}

    def __len__(self):
        return len(self.lineup)

    def __iter__(self):
        return iter(self.lineup)

    def __contains__(self, x):
        return x in self._numbers

    def __getitem__(self, at):
        return self.lineup[self.number_of(at)]

    @property
    def points(self):
        """The number of the points: the opening, each begin and each end."""
        return 2 * len(self.lineup) + 1

    def number_of(self, name):
        """The number of the item of this name."""
        if name not in self._numbers:
            raise Unknown(name)
        return self._numbers[name]

    def piece_names(self):
        """The names of the pieces, in the order of the lineup."""
        return [item.name for item in self.lineup if isinstance(item, Piece)]

    def break_names(self):
        """The names of the breaks, in the order of the lineup."""
        return [item.name for item in self.lineup if isinstance(item, Break)]

    def begin_of(self, name):
        """The point at which the item begins."""
        return 2 * self.number_of(name) + 1

    def end_of(self, name):
        """The point at which the item ends."""
        return 2 * self.number_of(name) + 2

    def call_of(self, name):
        """The point at which the crew of the piece is called."""
        number = self.number_of(name)
        if not isinstance(self.lineup[number], Piece):
            raise Unknown(name)
        if number < self.house.ahead:
            return 0
        return 2 * (number - self.house.ahead) + 1

    def upto(self, count):
        """The order of the first items, so many of them."""
        if not 0 <= count <= len(self.lineup):
            raise BadNumber(count)
        return Order(self.house, self.opens, self.lineup[:count])

    def moved(self, ticks):
        """The order with all that is fixed in it later by these ticks."""
        lineup = [moved_item(item, ticks) for item in self.lineup]
        return Order(self.house, self.opens + ticks, lineup)

    def retimed(self, name, minute):
        """The order with this minute for the break of this name."""
        number = self.number_of(name)
        item = self.lineup[number]
        if not isinstance(item, Break):
            raise Unknown(name)
        lineup = list(self.lineup)
        lineup[number] = with_times(item, item.grid, minute)
        return Order(self.house, self.opens, lineup)

    def swapped(self, first, second):
        """The order with these two items at each other's places."""
        former = self.number_of(first)
        latter = self.number_of(second)
        lineup = list(self.lineup)
        lineup[former], lineup[latter] = lineup[latter], lineup[former]
        return Order(self.house, self.opens, lineup)

    def with_house(self, house):
        """The same order in another house."""
        return Order(house, self.opens, self.lineup)
