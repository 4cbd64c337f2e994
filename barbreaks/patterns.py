"""Patterns: days in which the breaks have their places and the pieces may change theirs."""

from barbreaks.errors import BadSize, TooMany, Twice, Unknown
from barbreaks.orders import Order

MOST_PIECES = 4


def lineup_of(shape, pieces):
    """The items up to the first gap of the shape that the pieces do not fill."""
    lineup = []
    used = 0
    for item in shape:
        if item is None and used == len(pieces):
            return lineup
        if item is None:
            lineup.append(pieces[used])
            used = used + 1
        else:
            lineup.append(item)
    return lineup


def check_names(known, names):
    """Refuses names that are not known, and then names that stand there already."""
    for name in names:
        if name not in known:
            raise Unknown(name)
    for at, name in enumerate(names):
        if name in names[:at]:
            raise Twice(name)


class Pattern:
    """Breaks at their places, gaps between them, and the pieces for the gaps."""

    def __init__(self, house, opens, shape, pieces):
        if len(pieces) > MOST_PIECES:
            raise TooMany("pieces", MOST_PIECES)
        if len(pieces) != len([item for item in shape if item is None]):
            raise BadSize(len(pieces))
        # An order that is refused with the pieces in one order is refused with them in any.
        Order(house, opens, lineup_of(shape, pieces))
        self.house = house
        self.opens = opens
        self.shape = tuple(shape)
        self.pieces = tuple(pieces)

    def order_of(self, names):
        """The order in which the pieces of these names fill the gaps."""
        if len(names) != len(self.pieces):
            raise BadSize(len(names))
        return self.beginning(names)

    def beginning(self, names):
        """The order up to the first gap that the pieces of these names do not fill."""
        if len(names) > len(self.pieces):
            raise BadSize(len(names))
        known = {piece.name: piece for piece in self.pieces}
        check_names(known, names)
        pieces = [known[name] for name in names]
        return Order(self.house, self.opens, lineup_of(self.shape, pieces))

    def orders(self):
        """Yields the lists of the names of all pieces, in search order."""
        found = [[]]
        for _ in self.pieces:
            found = [[*start, piece.name] for start in found for piece in self.pieces
                     if piece.name not in start]
        for names in found:
            yield names
