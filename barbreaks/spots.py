"""Spots: sheets that hold whatever the lags are."""

from barbreaks.errors import Jammed
from barbreaks.jams import jam_of, kind_counts
from barbreaks.layings import lay
from barbreaks.places import places, spot_band
from barbreaks.sheets import Sheet


def sheet_of(order, laying):
    """The sheet with the kinds of the numbers of a laying in the places."""
    spots = {name: [] for name in order.break_names()}
    for (name, _), index in zip(places(order), laying):
        spots[name].append(None if index is None else order.house.kinds[index])
    return Sheet(order, spots)


def lay_spots(order, counts):
    """A sheet with these counts that holds in all rows."""
    found = jam_of(order, counts)
    if found is not None:
        raise Jammed(found)
    return sheet_of(order, lay(spot_band(order), kind_counts(order.house, counts)))
