"""Small patterns, and plain ways to the orders of their pieces."""

import itertools
import random

from barbreaks.grids import Grid
from barbreaks.houses import House
from barbreaks.items import Break, Piece
from barbreaks.patterns import Pattern
from tests.helpers import count_rows, plain_bounds
from tests.trouble_days import plain_word


def doc_pattern():
    """The pattern of the examples of the document."""
    first = Break("first", grid=Grid(1), minute=5, places=1, unit=5)
    second = Break("second", grid=Grid(10), minute=20, places=1, unit=5)
    long = Piece("long", grid=Grid(1), least=12, most=14)
    short = Piece("short", grid=Grid(1), least=5, most=5)
    return Pattern(House(1, 1), 0, [first, None, second, None], [long, short])


def some_pattern(rng):
    house = House(rng.choice([1, 2, 3, 3]), rng.choice([1, 2, 3, 3]), ["cars", "soap"][:rng.randrange(3)],
                  pack=(0, rng.randrange(2)), ahead=rng.randint(1, 2), apart=rng.randint(1, 9))
    count = rng.choice([0, 1, 2, 2, 3, 3, 3])
    pieces = [some_piece(rng, f"p{number}") for number in range(count)]
    shape = [None] * count
    for number in range(rng.randint(0, 3)):
        shape.insert(rng.randint(0, len(shape)), f"b{number}")
    # A break has about the time that the shortest pieces before it need.
    lengths = sorted(piece.most + piece.delay for piece in pieces)
    before = 0
    for at, name in enumerate(shape):
        if name is not None:
            minute = sum(lengths[:shape[:at].count(None)]) + before + rng.randint(0, 4)
            shape[at] = Break(name, grid=Grid(rng.choice([1, 1, 2])), minute=minute, places=1,
                              unit=rng.randint(1, 4), patience=rng.randint(1, 3))
            before += shape[at].length
    rng.shuffle(pieces)
    return Pattern(house, rng.randint(-2, 2), shape, pieces)


def some_piece(rng, name):
    least = rng.randint(1, 9)
    return Piece(name, grid=Grid(rng.choice([1, 1, 3])), least=least, most=least + rng.choice([0, 0, 1]),
                 delay=rng.choice([0, 0, 1]))


def small_patterns(seed, count, most_rows):
    """Small patterns, the same ones for the same seed."""
    rng = random.Random(seed)
    found = []
    while len(found) < count:
        pattern = some_pattern(rng)
        order = pattern.order_of([piece.name for piece in pattern.pieces])
        if count_rows(plain_bounds(order)) <= most_rows:
            found.append(pattern)
    return found


def some_counts(pattern, rng):
    return {kind: rng.choice([0, 1, 1, 2]) for kind in pattern.house.kinds if rng.random() < 0.4}


def plain_orders(pattern):
    """All lists of the names of all pieces, in search order."""
    return [list(names) for names in itertools.permutations([piece.name for piece in pattern.pieces])]


def plain_good(pattern, counts):
    """The lists of names without trouble, by going through all rows of each order."""
    return [names for names in plain_orders(pattern)
            if plain_word(pattern.order_of(names), counts) is None]
