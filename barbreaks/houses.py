"""The house: its studios, crews and kinds of spots."""

from barbreaks.errors import BadName, BadNumber, BadSpan, TooMany, Twice
from barbreaks.spans import Span
from barbreaks.words import is_name

MOST_STUDIOS = 6
MOST_CREWS = 6
MOST_KINDS = 5
MOST_SPREAD_OF_WAYS = 8
MOST_AHEAD = 3


def check_from_one(number, most):
    """Refuses a number that is not from 1 to the greatest one."""
    if not 1 <= number <= most:
        raise BadNumber(number)


def check_kinds(kinds):
    """Refuses kinds that are too many, not names, or there already."""
    if len(kinds) > MOST_KINDS:
        raise TooMany("kinds", MOST_KINDS)
    for at, kind in enumerate(kinds):
        if not is_name(kind):
            raise BadName(kind)
        if kind in kinds[:at]:
            raise Twice(kind)


def span_of_ways(bounds):
    """The span of the ticks of a walk or a pack."""
    low, high = bounds
    if not 0 <= low <= high <= low + MOST_SPREAD_OF_WAYS:
        raise BadSpan(low, high)
    return Span(low, high)


def check_apart(apart):
    """Refuses a distance of spots that is less than 1."""
    if apart < 1:
        raise BadNumber(apart)


class House:
    """What a house has for its days on the air."""

    def __init__(self, studios, crews, kinds=(), *, walk=(0, 0), pack=(0, 0), ahead=1, apart=1):
        check_from_one(studios, MOST_STUDIOS)
        check_from_one(crews, MOST_CREWS)
        check_kinds(kinds)
        self.studios = studios
        self.crews = crews
        self.kinds = tuple(kinds)
        self.walk = span_of_ways(walk)
        self.pack = span_of_ways(pack)
        check_from_one(ahead, MOST_AHEAD)
        check_apart(apart)
        self.ahead = ahead
        self.apart = apart

    def with_apart(self, apart):
        """The same house with another distance of spots of one kind."""
        walk = (self.walk.low, self.walk.high)
        pack = (self.pack.low, self.pack.high)
        return House(self.studios, self.crews, self.kinds, walk=walk, pack=pack,
                     ahead=self.ahead, apart=apart)
