"""Covers: groups of near things that bound what chains can have."""

from barbreaks.bands import MOST_THINGS, check_from_zero
from barbreaks.chains import chains


def chained_before(found, thing):
    """The things of the chains that come before a thing, ascending."""
    return sorted([other for chain in found for other in chain if other < thing])


def cover(band, many):
    """A cover whose bound is the number of things of the best chains."""
    found = chains(band, many)
    groups = []
    last = len(band) - 1
    while last >= 0:
        first = last
        if many > 0 and not any([last in chain for chain in found]):
            # Each chain has refused this thing, so this many things before it are near.
            first = chained_before(found, last)[-many]
        groups.append((first, last))
        last = first - 1
    return groups[::-1]


def is_cover(band, groups):
    """True if each thing belongs to exactly one of the groups, and they are in order."""
    start = 0
    for first, last in groups:
        if first != start or not first <= last < len(band) or not band.near(first, last):
            return False
        start = last + 1
    return start == len(band)


def cover_bound(band, many, groups):
    """The bound of a cover, None if the groups are not one."""
    check_from_zero(many, MOST_THINGS)
    if not is_cover(band, groups):
        return None
    return sum([min(many, last - first + 1) for first, last in groups])
