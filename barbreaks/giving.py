"""Giving studios and crews to the pieces, as few as can be."""

from barbreaks.chains import fewest
from barbreaks.stays import crew_band, studio_band


def give(order, band):
    """A number for each piece of the band, so that near pieces have different ones.

    Pieces with the same number are too far from one another to be near, since no
    piece is near to so many later ones.
    """
    count = fewest(band)
    return {name: at % count for at, name in enumerate(order.piece_names())}


def give_studios(order):
    """A studio for each piece that is right in every row."""
    return give(order, studio_band(order))


def give_crews(order):
    """A crew for each piece that is right in every row."""
    return give(order, crew_band(order))
