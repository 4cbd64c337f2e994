"""Stays: which pieces need studios or crews of their own."""

from barbreaks.bands import Band
from barbreaks.distances import nearest
from barbreaks.outlooks import Outlook
from barbreaks.reach import Reach


def stay_band(order, word):
    """The band of the pieces of which the event of this word may come before a crew is out."""
    reach = Reach(Outlook(order))
    names = order.piece_names()
    ends = []
    for at, name in enumerate(names):
        near = [later for later in range(at + 1, len(names))
                if nearest(reach, ("out", name), (word, names[later])).ticks < 0]
        ends.append(max([at, *near]))
    return Band(ends)


def studio_band(order):
    """The band of the pieces; a crew may enter before that of a near piece is out."""
    return stay_band(order, "enter")


def crew_band(order):
    """The band of the pieces; a crew may be called before that of a near piece is out."""
    return stay_band(order, "call")
