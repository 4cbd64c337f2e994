"""Chains: lists of things of a band no two of which are near."""

from barbreaks.bands import MOST_THINGS, check_from_zero


def first_free(band, found, thing):
    """The number of the first chain that can take the thing, None if there is none."""
    for number, chain in enumerate(found):
        if chain == [] or not band.near(chain[-1], thing):
            return number
    return None


def chains(band, many):
    """So many chains; each thing goes to the first one that can take it."""
    check_from_zero(many, MOST_THINGS)
    found = [[] for _ in range(many)]
    for thing in range(len(band)):
        number = first_free(band, found, thing)
        if number is not None:
            found[number].append(thing)
    return found


def most(band, many):
    """The greatest number of things that so many chains can have in all."""
    return sum([len(chain) for chain in chains(band, many)])


def fewest(band):
    """The least number of chains that together have all things.

    All things from one to its end are near one another, so each needs its own chain.
    """
    return max([end - thing + 1 for thing, end in enumerate(band.ends)], default=0)
