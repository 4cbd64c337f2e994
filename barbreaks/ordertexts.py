"""Texts of orders: writing and reading them."""

from barbreaks.errors import BadLine, BarbreaksError
from barbreaks.grids import Grid
from barbreaks.houses import House
from barbreaks.items import Break, Piece
from barbreaks.orders import Order
from barbreaks.words import read_number, write_number

# How many parts stand behind the first word of a line.
PARTS = {"house": 4, "walk": 2, "pack": 2, "kind": 1, "opens": 1, "piece": 6, "break": 7}
HEAD = ("house", "walk", "pack")


def line_of(word, numbers):
    """A line of a word and numbers."""
    return " ".join([word] + [write_number(number) for number in numbers])


def item_line(item):
    """The line of one item."""
    word = "break" if isinstance(item, Break) else "piece"
    return " ".join([word] + item.words())


def write_order(order):
    """The text of an order."""
    house = order.house
    lines = [line_of("house", [house.studios, house.crews, house.ahead, house.apart]),
             line_of("walk", [house.walk.low, house.walk.high]),
             line_of("pack", [house.pack.low, house.pack.high])]
    lines.extend([f"kind {kind}" for kind in house.kinds])
    lines.append(line_of("opens", [order.opens]))
    lines.extend([item_line(item) for item in order.lineup])
    return "\n".join(lines)


def numbers_in(parts):
    """The numbers that are written in the parts of a line behind its first word."""
    return [read_number(part) for part in parts[1:]]


def read_item(parts):
    """The piece or the break of a line."""
    grid = Grid.read(parts[2])
    if parts[0] == "break":
        minute, delay, places, unit, patience = [read_number(part) for part in parts[3:]]
        return Break(parts[1], grid=grid, minute=minute, places=places, unit=unit, delay=delay,
                     patience=patience)
    minute = None if parts[3] == "-" else read_number(parts[3])
    delay, least, most = [read_number(part) for part in parts[4:]]
    return Piece(parts[1], grid=grid, least=least, most=most, minute=minute, delay=delay)


def read_house(rows):
    """The house of the first lines, as far as they tell of it."""
    studios, crews, ahead, apart = numbers_in(rows[0])
    bounds = [tuple(numbers_in(row)) for row in rows[1:3]] + [(0, 0), (0, 0)]
    kinds = [row[1] for row in rows if row[0] == "kind"]
    return House(studios, crews, kinds, walk=bounds[0], pack=bounds[1], ahead=ahead, apart=apart)


def read_rows(rows):
    """The order of the lines, each split into its parts; None before its opening is told."""
    house = read_house(rows)
    opens = [numbers_in(row)[0] for row in rows if row[0] == "opens"]
    if opens == []:
        return None
    return Order(house, opens[0], [read_item(row) for row in rows if row[0] in ("piece", "break")])


def due_words(rows):
    """The words with which the line behind these lines may begin."""
    if len(rows) < len(HEAD):
        return HEAD[len(rows):len(rows) + 1]
    if any([row[0] == "opens" for row in rows]):
        return ("piece", "break")
    return ("kind", "opens")


def read_order_lines(lines):
    """The order of a list of lines."""
    order = None
    rows = []
    for number, line in enumerate(lines, start=1):
        parts = line.split(" ")
        if parts[0] not in due_words(rows) or len(parts) != PARTS[parts[0]] + 1:
            raise BadLine(number)
        rows.append(parts)
        try:
            # The lines before this one are right, so what is refused is this one.
            order = read_rows(rows)
        except BarbreaksError as e:
            raise BadLine(number) from e
    if order is None:
        raise BadLine(len(lines) + 1)
    return order


def read_order(text):
    """The order of a text."""
    return read_order_lines(text.split("\n"))
