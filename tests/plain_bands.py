"""Slow but plain ways through bands, given as the lists of their ends."""

import random


def all_ends(count):
    """The ends of all bands of so many things."""
    found = [[]]
    for thing in range(count):
        found = [[*ends, end] for ends in found
                 for end in range(max([thing, *ends[-1:]]), count)]
    return found


def some_ends(seed, count, farthest):
    """The ends of one band, no thing near to more than so many later ones."""
    rng = random.Random(seed)
    ends = []
    for thing in range(count):
        low = max([thing, *ends[-1:]])
        ends.append(max(low, min(count - 1, thing + rng.randint(0, farthest))))
    return ends


def are_near(ends, one, other):
    return max(one, other) <= ends[min(one, other)]


def is_chain(ends, chain):
    """True for an ascending list of things no two of which are near."""
    inside = all(0 <= thing < len(ends) for thing in chain)
    rising = all(one < other for one, other in zip(chain, chain[1:]))
    return inside and rising and not any(
        are_near(ends, one, other) for at, one in enumerate(chain) for other in chain[:at])


def all_layings(ends, many):
    """All layings in a band with `many` indices, whatever their counts, ascending."""
    found = [[]]
    for thing in range(len(ends)):
        found = [[*start, entry] for start in found for entry in [None, *range(many)]
                 if can_take(ends, start, entry)]
    return found


def can_take(ends, start, entry):
    """True if the next thing can have the entry after those at the start."""
    if entry is None:
        return True
    return not any(other == entry and are_near(ends, thing, len(start))
                   for thing, other in enumerate(start))


def counts_of(laying, many):
    return tuple(laying.count(index) for index in range(many))


def is_laying(ends, counts, laying):
    """True if the laying has exactly these counts and no index stands at two near things."""
    return (len(laying) == len(ends)
            and all(entry is None or 0 <= entry < len(counts) for entry in laying)
            and counts_of(laying, len(counts)) == tuple(counts)
            and all(is_chain(ends, [thing for thing, entry in enumerate(laying) if entry == index])
                    for index in range(len(counts))))


def plain_chains(ends, many):
    """The chains of point 39, with all things of a chain compared."""
    found = [[] for _ in range(many)]
    for thing in range(len(ends)):
        for chain in found:
            if not any(are_near(ends, other, thing) for other in chain):
                chain.append(thing)
                break
    return found


def is_cover(ends, groups):
    """True if the groups are a cover: in order, each thing in exactly one of them."""
    things = [thing for first, last in groups for thing in range(first, last + 1)]
    return (things == list(range(len(ends)))
            and all(first <= last and are_near(ends, first, last) for first, last in groups))
