"""The greatest number of spots of so many kinds."""

from barbreaks.bands import check_from_zero
from barbreaks.chains import chains
from barbreaks.jams import place_groups
from barbreaks.places import places, spot_band

MOST_KINDS_ASKED = 12


class Most:
    """A number of spots, lists of places for them, and groups that let in no more."""

    def __init__(self, count, lists, groups):
        self.count = count
        self.chains = list(lists)
        self.groups = list(groups)


def most_spots(order, many):
    """The greatest number of spots of so many kinds that hold in all rows."""
    check_from_zero(many, MOST_KINDS_ASKED)
    band = spot_band(order)
    names = places(order)
    lists = [[names[thing] for thing in chain] for chain in chains(band, many)]
    count = sum([len(chain) for chain in lists])
    return Most(count, lists, place_groups(order, band, many))
