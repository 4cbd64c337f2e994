"""Crowds: how many studios and crews the pieces of an order need."""

from barbreaks.chains import fewest
from barbreaks.distances import nearest
from barbreaks.outlooks import Outlook
from barbreaks.reach import Reach
from barbreaks.runs import run
from barbreaks.stays import crew_band, studio_band


class Crowd:
    """A number of studios or crews, and a moment of a row in which all of them are taken."""

    def __init__(self, count, row, moment, names):
        self.count = count
        self.row = None if row is None else list(row)
        self.moment = moment
        self.names = None if names is None else list(names)


def with_wide_stays(order, row):
    """The row with all walks least and all packs greatest."""
    house = order.house
    return [(*lags[:2], house.walk.low, house.pack.high) if len(lags) > 1 else lags
            for lags in row]


def crowd_of(order, band, word):
    """The crowd of a band; a crew is taken from the event of this word until it is out."""
    count = fewest(band)
    if count < 2:
        return Crowd(count, None, None, None)
    firsts = [thing for thing, end in enumerate(band.ends) if end - thing + 1 == count]
    names = order.piece_names()[firsts[0]:firsts[0] + count]
    start = (word, names[-1])
    found = nearest(Reach(Outlook(order)), ("out", names[0]), start)
    # With wide stays all crews between these two are taken whenever both are.
    row = with_wide_stays(order, found.row)
    return Crowd(count, row, run(order, row).moment_of(start), names)


def fewest_studios(order):
    """The least number of studios with which no crew ever enters one too early."""
    return crowd_of(order, studio_band(order), "enter")


def fewest_crews(order):
    """The least number of crews with which none is ever called before it is out."""
    return crowd_of(order, crew_band(order), "call")
