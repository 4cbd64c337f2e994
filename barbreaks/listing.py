"""All layings of counts in a small band."""

from barbreaks.errors import TooMany
from barbreaks.layings import check_counts

MOST_LISTED = 7


def can_stand(band, start, index):
    """True if no thing at the start that has this index is near to the thing behind it."""
    return not any([other == index and band.near(thing, len(start))
                    for thing, other in enumerate(start)])


def entries_behind(band, counts, start):
    """The entries that can stand behind those at the start, None first.

    The things that are left are always as many as the spots that are left, or more.
    """
    entries = []
    used = len([entry for entry in start if entry is not None])
    if sum(counts) - used < len(band) - len(start):
        entries.append(None)
    for index, count in enumerate(counts):
        taken = len([entry for entry in start if entry == index])
        if taken < count and can_stand(band, start, index):
            entries.append(index)
    return entries


def every_laying(band, counts):
    """Yields all layings of the counts, ascending."""
    check_counts(counts)
    if len(band) > MOST_LISTED:
        raise TooMany("things", MOST_LISTED)
    found = [[]] if sum(counts) <= len(band) else []
    for _ in range(len(band)):
        found = [[*start, entry] for start in found
                 for entry in entries_behind(band, counts, start)]
    for laying in found:
        yield laying
