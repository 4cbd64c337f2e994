"""The places of an order, and which of them are near to one another."""

from barbreaks.bands import Band
from barbreaks.items import Break
from barbreaks.leasts import least_table
from barbreaks.outlooks import Outlook
from barbreaks.reach import Reach


def places(order):
    """The places (break name, place) of all breaks."""
    return [(item.name, place) for item in order.lineup if isinstance(item, Break)
            for place in range(item.places)]


def place_distances(order):
    """For each place the least distances to itself and to all later ones, ascending."""
    table = least_table(Reach(Outlook(order)))
    # Each place as the point of its break and the ticks from there to the place.
    spots = [(order.begin_of(name), place * order[name].unit) for name, place in places(order)]
    return [[table[point][goal] + after - before for goal, after in spots[at:]]
            for at, (point, before) in enumerate(spots)]


def near_band(distances, apart):
    """The band of places with these distances, near if that can be less than apart."""
    return Band([at + len([ticks for ticks in line if ticks < apart]) - 1
                 for at, line in enumerate(distances)])


def spot_band(order):
    """The band of the places of an order."""
    return near_band(place_distances(order), order.house.apart)
