"""Sheets: which spots stand in the places of the breaks."""

from barbreaks.errors import BadNumber, BadSize, Unknown


def check_entries(order, name, entries):
    """Refuses entries that are not one for each place, each None or a kind of the house."""
    if len(entries) != order[name].places:
        raise BadSize(len(entries))
    for entry in entries:
        if entry is not None and entry not in order.house.kinds:
            raise Unknown(entry)


def check_spots(order, spots):
    """Refuses names that are not those of breaks, and entries that do not fit."""
    names = order.break_names()
    for name in spots:
        if name not in names:
            raise Unknown(name)
    for name in names:
        if name in spots:
            check_entries(order, name, spots[name])


class Sheet:
    """A kind or None for each place of an order."""

    def __init__(self, order, spots):
        check_spots(order, spots)
        self.order = order
        self._entries = {name: tuple(spots.get(name, (None,) * order[name].places))
                         for name in order.break_names()}
        self._spots = [(name, place, kind) for name, entries in self._entries.items()
                       for place, kind in enumerate(entries) if kind is not None]

    def __getitem__(self, at):
        name, place = at
        return self._entries_with(name, place)[place]

    def __iter__(self):
        return iter(self._spots)

    def entries_of(self, name):
        """The entries of a break."""
        if name not in self._entries:
            raise Unknown(name)
        return self._entries[name]

    def counts(self):
        """The number of the spots of each kind."""
        return {kind: len([spot for spot in self._spots if spot[2] == kind])
                for kind in self.order.house.kinds}

    def put(self, name, place, kind):
        """The sheet with this entry at the place."""
        entries = list(self._entries_with(name, place))
        entries[place] = kind
        return Sheet(self.order, {**self._entries, name: entries})

    def _entries_with(self, name, place):
        entries = self.entries_of(name)
        if not 0 <= place < len(entries):
            raise BadNumber(place)
        return entries
