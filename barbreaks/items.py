"""What goes on the air: pieces and breaks."""

from barbreaks.errors import BadName, BadNumber
from barbreaks.words import is_name, write_number


class Named:
    """Something that has a name."""

    def __init__(self, name):
        if not is_name(name):
            raise BadName(name)
        self.name = name


class Timed:
    """Something that begins at a bar of its grid, after a press."""

    MOST_DELAY = 8

    def __init__(self, grid, minute=None, delay=0):
        if not 0 <= delay <= Timed.MOST_DELAY:
            raise BadNumber(delay)
        self.grid = grid
        self.minute = minute
        self.delay = delay

    def begin_at(self, moment, delay):
        """The begin, if what goes before ends at the moment and the press has this delay."""
        start = moment if self.minute is None else max(moment, self.minute)
        return self.grid.first_bar(start + delay)


class Item(Named, Timed):
    """Something that goes on the air."""

    def __init__(self, name, *, grid, minute=None, delay=0):
        Named.__init__(self, name)
        Timed.__init__(self, grid, minute, delay)

    def words(self):
        """The name, the word of the grid, the minute and the delay, as texts."""
        minute = "-" if self.minute is None else write_number(self.minute)
        return [self.name, str(self.grid), minute, write_number(self.delay)]


class Piece(Item):
    """An item whose length is known only by its bounds."""

    MOST_SPREAD = 8

    def __init__(self, name, *, grid, least, most, minute=None, delay=0):
        Item.__init__(self, name, grid=grid, minute=minute, delay=delay)
        if least < 1:
            raise BadNumber(least)
        if not least <= most <= least + Piece.MOST_SPREAD:
            raise BadNumber(most)
        self.least = least
        self.most = most

    def words(self):
        """The words of an item, the least and the greatest length."""
        return super().words() + [write_number(self.least), write_number(self.most)]


class Break(Item):
    """An item with places for spots."""

    MOST_PLACES = 12
    MOST_PATIENCE = 64

    def __init__(self, name, *, grid, minute, places, unit, delay=0, patience=1):
        Item.__init__(self, name, grid=grid, minute=minute, delay=delay)
        if not 1 <= places <= Break.MOST_PLACES:
            raise BadNumber(places)
        if unit < 1:
            raise BadNumber(unit)
        if not 1 <= patience <= Break.MOST_PATIENCE:
            raise BadNumber(patience)
        self.places = places
        self.unit = unit
        self.patience = patience

    @property
    def length(self):
        """The ticks that all places together last."""
        return self.places * self.unit

    @property
    def limit(self):
        """The last bar at which the break may begin without being swallowed."""
        return self.grid.first_bar(self.minute) + (self.patience - 1) * self.grid.step

    def words(self):
        """The words of an item, the places, the unit and the patience."""
        numbers = [self.places, self.unit, self.patience]
        return super().words() + [write_number(number) for number in numbers]


def with_times(item, grid, minute):
    """The same piece or break with another grid and another minute."""
    if isinstance(item, Break):
        return Break(item.name, grid=grid, minute=minute, places=item.places, unit=item.unit,
                     delay=item.delay, patience=item.patience)
    return Piece(item.name, grid=grid, least=item.least, most=item.most, minute=minute,
                 delay=item.delay)
