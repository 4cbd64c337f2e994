"""Jams: short proofs that no sheet will do."""

from barbreaks.covers import cover
from barbreaks.distances import nearest
from barbreaks.errors import BadNumber, Unknown
from barbreaks.layings import excess
from barbreaks.outlooks import Outlook
from barbreaks.places import places, spot_band
from barbreaks.reach import Reach
from barbreaks.runs import run

MOST_SPOTS = 60


class Group:
    """All from the first to the last, and a row in which these two are near."""

    def __init__(self, first, last, row):
        self.first = first
        self.last = last
        self.row = None if row is None else list(row)


class Jam:
    """Kinds, the sum of their counts, and the lesser number that the groups let in."""

    def __init__(self, kinds, asked, most, groups):
        self.kinds = list(kinds)
        self.asked = asked
        self.most = most
        self.groups = list(groups)


def kind_counts(house, counts):
    """The counts of the kinds of the house, in their order; refuses bad counts."""
    for kind in counts:
        if kind not in house.kinds:
            raise Unknown(kind)
    for count in counts.values():
        if not 0 <= count <= MOST_SPOTS:
            raise BadNumber(count)
    return [counts.get(kind, 0) for kind in house.kinds]


def groups_with_rows(order, ends, names, firsts, lasts):
    """The groups of a cover, with the names of the things instead of their numbers.

    In the row of a group, the event `lasts` of its last thing comes as soon as it
    can after the event `firsts` of its first thing.
    """
    reach = Reach(Outlook(order))
    found = []
    for first, last in ends:
        row = None
        if first != last:
            row = nearest(reach, firsts[first], lasts[last]).row
        found.append(Group(names[first], names[last], row))
    return found


def place_groups(order, band, many):
    """The groups of places of a cover, so that they let in no more than the best chains."""
    names = places(order)
    events = [("place", name, place) for name, place in names]
    return groups_with_rows(order, cover(band, many), names, events, events)


def jam_of(order, counts):
    """A jam of the counts, None if there is a sheet for them."""
    numbers = kind_counts(order.house, counts)
    band = spot_band(order)
    over = excess(band, numbers)
    if over is None:
        return None
    many, less = over
    ranked = sorted([(-count, at) for at, count in enumerate(numbers)])[:many]
    chosen = sorted([at for _, at in ranked])
    asked = sum([numbers[at] for at in chosen])
    kinds = [order.house.kinds[at] for at in chosen]
    return Jam(kinds, asked, asked - less, place_groups(order, band, many))


def is_near(order, group):
    """True if the row of a group shows that its first and last place are near."""
    if group.first == group.last:
        return group.row is None
    if group.row is None or group.row not in Outlook(order):
        return False
    day = run(order, group.row)
    before = day.moment_of(("place", group.first[0], group.first[1]))
    after = day.moment_of(("place", group.last[0], group.last[1]))
    return after - before < order.house.apart


def sizes_of(order, groups):
    """The numbers of the places of the groups, None if these are not as they should be."""
    numbers = {place: number for number, place in enumerate(places(order))}
    sizes = []
    start = 0
    for group in groups:
        if group.first not in numbers or group.last not in numbers:
            return None
        size = numbers[group.last] - start + 1
        if numbers[group.first] != start or size < 1 or not is_near(order, group):
            return None
        sizes.append(size)
        start = start + size
    return sizes if start == len(numbers) else None


def check_jam(order, counts, jam):
    """True if the jam shows that no sheet has these counts and holds in all rows."""
    kind_counts(order.house, counts)
    known = [kind for kind in order.house.kinds if kind in jam.kinds]
    if sorted(jam.kinds) != sorted(known):
        return False
    asked = sum([counts.get(kind, 0) for kind in known])
    sizes = sizes_of(order, jam.groups)
    if asked != jam.asked or sizes is None:
        return False
    let_in = sum([min(len(known), size) for size in sizes])
    return let_in == jam.most and let_in < asked
