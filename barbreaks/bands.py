"""Bands: a series of things, some of which are near one another."""

from barbreaks.errors import BadEnd, BadNumber, TooMany

MOST_THINGS = 60


def check_things(count):
    """Refuses more things than a band can have."""
    if count > MOST_THINGS:
        raise TooMany("things", MOST_THINGS)


def check_ends(ends):
    """Refuses the first end that is not in the bounds of a band."""
    before = 0
    for at, end in enumerate(ends):
        if end < at or end >= len(ends) or end < before:
            raise BadEnd(at)
        before = end


def check_rising(positions):
    """Refuses the first position that is less than the one before it."""
    for at in range(1, len(positions)):
        if positions[at] < positions[at - 1]:
            raise BadNumber(positions[at])


def check_from_zero(number, most):
    """Refuses a number that is not from 0 to the greatest one."""
    if not 0 <= number <= most:
        raise BadNumber(number)


class Band:
    """For each thing the last one that is near to it."""

    def __init__(self, ends):
        check_things(len(ends))
        check_ends(ends)
        self.ends = tuple(ends)

    @staticmethod
    def spaced(positions, apart):
        """The band of things at these positions, near if they differ by less than apart."""
        check_things(len(positions))
        if apart < 1:
            raise BadNumber(apart)
        check_rising(positions)
        counts = [len([later for later in positions[at:] if later - start < apart])
                  for at, start in enumerate(positions)]
        return Band([at + count - 1 for at, count in enumerate(counts)])

    def __len__(self):
        return len(self.ends)

    def near(self, i, k):
        """True if two things are near."""
        check_from_zero(i, len(self.ends) - 1)
        check_from_zero(k, len(self.ends) - 1)
        return max(i, k) <= self.ends[min(i, k)]

    def part(self, low, high):
        """The band of the things from low to high - 1."""
        check_from_zero(low, len(self.ends))
        if not low <= high <= len(self.ends):
            raise BadNumber(high)
        return Band([min(end, high - 1) - low for end in self.ends[low:high]])

    def mirrored(self):
        """The band of the same things in the reverse order."""
        last = len(self.ends) - 1
        # The last near thing of the reverse order is the first near one of this order.
        firsts = [min([i for i, end in enumerate(self.ends) if end >= k])
                  for k in range(last + 1)]
        return Band([last - first for first in firsts[::-1]])

    def __add__(self, other):
        count = len(self.ends)
        return Band(list(self.ends) + [count + end for end in other.ends])
