"""The greatest number of pieces that so many studios can take."""

from barbreaks.bands import check_from_zero
from barbreaks.chains import chains
from barbreaks.covers import cover
from barbreaks.houses import MOST_STUDIOS
from barbreaks.jams import groups_with_rows
from barbreaks.stays import studio_band


class Live:
    """A number of pieces, lists of their names, and groups that let in no more."""

    def __init__(self, count, lists, groups):
        self.count = count
        self.names = list(lists)
        self.groups = list(groups)


def most_live(order, many):
    """The greatest number of pieces that so many studios can take in every row."""
    check_from_zero(many, MOST_STUDIOS)
    band = studio_band(order)
    names = order.piece_names()
    lists = [[names[thing] for thing in chain] for chain in chains(band, many)]
    outs = [("out", name) for name in names]
    enters = [("enter", name) for name in names]
    groups = groups_with_rows(order, cover(band, many), names, outs, enters)
    return Live(sum([len(chain) for chain in lists]), lists, groups)
