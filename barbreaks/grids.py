"""Grids: ticks that lie a step apart."""

from barbreaks.errors import Apart, BadNumber, BadText
from barbreaks.words import is_number, read_number


def divisor_and_factor(first, second):
    """The greatest common divisor of two positive integers, and a factor.

    The factor times the first one leaves the same remainder as the divisor
    after division by the second one.
    """
    divisor, rest = first, second
    factor, later = 1, 0
    while rest != 0:
        times = divisor // rest
        divisor, rest = rest, divisor - times * rest
        factor, later = later, factor - times * later
    return divisor, factor


class Grid:
    """The set of the ticks `offset + step * n` for all integers n, its bars."""

    def __init__(self, step, offset=0):
        if step < 1:
            raise BadNumber(step)
        self.step = step
        self.offset = offset % step

    @classmethod
    def read(cls, word):
        """The grid that has this word."""
        step, plus, offset = word.partition("+")
        if plus == "":
            offset = "0"
        elif offset == "0":
            raise BadText(word)
        if not is_number(step) or not is_number(offset):
            raise BadText(word)
        if not 0 <= read_number(offset) < read_number(step):
            raise BadText(word)
        return cls(read_number(step), read_number(offset))

    def first_bar(self, tick):
        """The least bar that is not less than the tick."""
        return tick + (self.offset - tick) % self.step

    def last_bar(self, tick):
        """The greatest bar that is not greater than the tick."""
        return tick - (tick - self.offset) % self.step

    def bars_between(self, low, high):
        """The number of bars from low on that are less than high."""
        if high <= low:
            return 0
        return (self.first_bar(high) - self.first_bar(low)) // self.step

    def within(self, other):
        """True if every bar of this grid is a bar of the other one."""
        return self.step % other.step == 0 and self.offset in other

    def __contains__(self, x):
        return (x - self.offset) % self.step == 0

    def __add__(self, other):
        return Grid(self.step, self.offset + other)

    def __radd__(self, other):
        return Grid(self.step, self.offset + other)

    def __sub__(self, other):
        return Grid(self.step, self.offset - other)

    def __and__(self, other):
        divisor, factor = divisor_and_factor(self.step, other.step)
        gap = other.offset - self.offset
        if gap % divisor != 0:
            raise Apart()
        many = gap // divisor * factor % (other.step // divisor)
        return Grid(self.step // divisor * other.step, self.offset + many * self.step)

    def __eq__(self, other):
        return isinstance(other, Grid) and self.step == other.step and self.offset == other.offset

    def __str__(self):
        if self.offset == 0:
            return str(self.step)
        return f"{self.step}+{self.offset}"


def common_grid(*grids):
    """The grid of the ticks that are bars of all the given grids."""
    common = Grid(1)
    for grid in grids:
        common = common & grid
    return common
