"""Layings: things of a band are given to indices that must keep apart."""

from barbreaks.bands import MOST_THINGS, check_from_zero
from barbreaks.chains import chains, most
from barbreaks.errors import NoRoom, TooMany

MOST_COUNTS = 12


def check_counts(counts):
    """Refuses too many counts, and a count that no band can have."""
    if len(counts) > MOST_COUNTS:
        raise TooMany("counts", MOST_COUNTS)
    for count in counts:
        check_from_zero(count, MOST_THINGS)


def excess(band, counts):
    """The least number of greatest counts that are too much, and by how much; else None."""
    total = 0
    for many, count in enumerate(sorted(counts, reverse=True), start=1):
        total = total + count
        if total > most(band, many):
            return many, total - most(band, many)
    return None


def fits(band, counts):
    """True if there is a laying of the counts."""
    check_counts(counts)
    return excess(band, counts) is None


def jam(band, counts):
    """The numbers that show that there is no laying, None if there is one."""
    check_counts(counts)
    return excess(band, counts)


def turns(band, longer, shorter):
    """The things of two chains, in lists of which each thing is near to the one before it."""
    found = []
    for thing in sorted(longer + shorter):
        if found != [] and band.near(found[-1][-1], thing):
            found[-1].append(thing)
        else:
            found.append([thing])
    return found


def exchanged(band, longer, shorter):
    """Two chains with the same things, of which the shorter one has one thing more."""
    odd = [things for things in turns(band, longer, shorter)
           if len(things) % 2 == 1 and things[0] in longer]
    moved = odd[0]
    less = [thing for thing in longer if thing not in moved]
    more = [thing for thing in shorter if thing not in moved]
    return sorted(less + moved[1::2]), sorted(more + moved[::2])


def filled(band, lists, counts):
    """The chains, changed until none is shorter than its count; the counts must fit."""
    found = list(lists)
    for short, count in enumerate(counts):
        while len(found[short]) < count:
            giver = max([at for at in range(short) if len(found[at]) > counts[at]])
            found[giver], found[short] = exchanged(band, found[giver], found[short])
    return found


def lay(band, counts):
    """For each thing an index or None, so that each index stands there as often as asked."""
    check_counts(counts)
    over = excess(band, counts)
    if over is not None:
        raise NoRoom(over[0], over[1])
    ranked = sorted([(-count, index) for index, count in enumerate(counts)])
    wanted = [-less for less, _ in ranked]
    laying = [None] * len(band)
    found = filled(band, chains(band, len(counts)), wanted)
    for (_, index), chain, count in zip(ranked, found, wanted):
        for thing in chain[:count]:
            laying[thing] = index
    return laying
