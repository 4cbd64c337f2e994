"""How far apart the spots of one kind can be kept."""

from barbreaks.errors import Jammed
from barbreaks.jams import jam_of, kind_counts
from barbreaks.layings import fits
from barbreaks.places import near_band, place_distances
from barbreaks.spots import lay_spots


class Width:
    """The greatest distance, a sheet that keeps it, and a jam for one tick more."""

    def __init__(self, apart, sheet, jam):
        self.apart = apart
        self.sheet = sheet
        self.jam = jam


def order_apart(order, apart):
    """The order in the house with another distance."""
    return order.with_house(order.house.with_apart(apart))


def widest(order, counts):
    """The greatest distance at which there is a sheet for the counts."""
    numbers = kind_counts(order.house, counts)
    distances = place_distances(order)
    # Bands differ only behind these distances, and the greatest one with a sheet is of them.
    aparts = sorted(set([ticks for line in distances for ticks in line[1:]]))
    if fits(near_band(distances, max(aparts, default=0) + 1), numbers):
        return Width(None, lay_spots(order, counts), None)
    for apart in aparts[::-1]:
        if fits(near_band(distances, apart), numbers):
            sheet = lay_spots(order_apart(order, apart), counts)
            return Width(apart, sheet, jam_of(order_apart(order, apart + 1), counts))
    raise Jammed(jam_of(order_apart(order, 1), counts))
