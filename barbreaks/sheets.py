"""Sheets: which spots stand in the places of the breaks."""

from barbreaks.errors import BadNumber, BadSize, Unknown


def check_entry(house, entry):
    """Refuses what is neither None nor a kind of the house."""
    if entry is not None and entry not in house.kinds:
        raise Unknown(entry)


def check_spots(order, spots):
    """Refuses names that are not those of breaks, and entries that do not fit."""
    names = order.break_names()
    for name in spots:
        if name not in names:
            raise Unknown(name)
    for name in names:
        if name in spots:
            if len(spots[name]) != order[name].places:
                raise BadSize(len(spots[name]))
            for entry in spots[name]:
                check_entry(order.house, entry)


class Sheet:
    """A kind or None for each place of an order."""

    def __init__(self, order, spots):
        check_spots(order, spots)
        self.order = order
        self._entries = {name: tuple(spots.get(name, (None,) * order[name].places))
                         for name in order.break_names()}
        self._spots = [(name, place, kind) for name, entries in self._entries.items()
                       for place, kind in enumerate(entries) if kind is not None]

    def __getitem__(self, at):
        name, place = at
        return self._entries_with(name, place)[place]

    def __iter__(self):
        return iter(self._spots)

    def entries_of(self, name):
        """The entries of a break."""
        if name not in self._entries:
            raise Unknown(name)
        return self._entries[name]

    def counts(self):
        """The number of the spots of each kind."""
        return {kind: len([spot for spot in self._spots if spot[2] == kind])
                for kind in self.order.house.kinds}

    def put(self, name, place, kind):
        """The sheet with this entry at the place."""
        entries = list(self._entries_with(name, place))
        check_entry(self.order.house, kind)
        entries[place] = kind
        return Sheet(self.order, {**self._entries, name: entries})

    def _entries_with(self, name, place):
        entries = self.entries_of(name)
        if not 0 <= place < len(entries):
            raise BadNumber(place)
        return entries
