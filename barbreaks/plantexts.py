"""Texts of plans: writing and reading them."""

from barbreaks.bands import check_from_zero
from barbreaks.errors import BadLine, BarbreaksError
from barbreaks.ordertexts import read_order_lines, write_order
from barbreaks.plans import Plan
from barbreaks.sheets import check_entries
from barbreaks.words import read_number, write_number

STUDIO = "studio"
CREW = "crew"
SPOTS = "spots"
NO_SPOT = "."


def spots_line(sheet, name):
    """The line of the spots of one break."""
    entries = [NO_SPOT if entry is None else entry for entry in sheet.entries_of(name)]
    return " ".join([SPOTS, name, *entries])


def write_plan(plan):
    """The text of a plan."""
    lines = [write_order(plan.order)]
    for word, numbers in [(STUDIO, plan.studios), (CREW, plan.crews)]:
        lines.extend([f"{word} {name} {write_number(number)}" for name, number in numbers.items()])
    lines.extend([spots_line(plan.sheet, name) for name in plan.order.break_names()])
    return "\n".join(lines)


def order_size(lines):
    """The number of the lines before the first one that is not of the order."""
    for number, line in enumerate(lines):
        if line.split(" ")[0] in (STUDIO, CREW, SPOTS):
            return number
    return len(lines)


def due_lines(order):
    """The first two words of all lines behind those of the order."""
    words = [(STUDIO, name) for name in order.piece_names()]
    words.extend([(CREW, name) for name in order.piece_names()])
    return words + [(SPOTS, name) for name in order.break_names()]


def read_entries(order, name, parts):
    """The entries of a break."""
    entries = [None if part == NO_SPOT else part for part in parts]
    check_entries(order, name, entries)
    return entries


def read_choice(text, count):
    """The number of a studio or crew, of which there are so many."""
    number = read_number(text)
    check_from_zero(number, count - 1)
    return number


def read_part(order, word, name, parts):
    """What a line says behind its first two words."""
    if word == SPOTS:
        return read_entries(order, name, parts)
    return read_choice(parts[0], order.house.studios if word == STUDIO else order.house.crews)


def is_due(due, parts):
    """True if a line of these parts has the form of the line that is due."""
    return parts[:2] == list(due) and (due[0] == SPOTS or len(parts) == 3)


def read_plan(text):
    """The plan of a text."""
    lines = text.split("\n")
    start = order_size(lines)
    order = read_order_lines(lines[:start])
    due = due_lines(order)
    told = {STUDIO: {}, CREW: {}, SPOTS: {}}
    for number, line in enumerate(lines[start:]):
        parts = line.split(" ")
        if number == len(due) or not is_due(due[number], parts):
            raise BadLine(start + number + 1)
        word, name = due[number]
        try:
            found = read_part(order, word, name, parts[2:])
        except BarbreaksError as e:
            raise BadLine(start + number + 1) from e
        told[word][name] = found
    if len(lines) - start < len(due):
        raise BadLine(len(lines) + 1)
    return Plan(order, studios=told[STUDIO], crews=told[CREW], spots=told[SPOTS])
