"""Scripts: texts of deeds for a desk."""

from barbreaks.errors import BadLine, BadText, BarbreaksError
from barbreaks.words import read_number

# What stands behind the first word of a line.
FORMS = {
    "press": ("number",), "finish": ("number",), "walked": ("name", "number"),
    "packed": ("name", "number"), "expect": ("name", "name", "number", "number"),
    "put": ("name", "number", "kind"), "room": ("name", "number"), "staff": ("name", "number"),
    "retime": ("name", "number"), "swap": ("name", "name"), "space": ("number",),
}
NO_SPOT = "."


def has_form(word, parts):
    """True if so many parts may stand behind the first word of a line."""
    if word == "finish" and parts == []:
        return True
    return word in FORMS and len(parts) == len(FORMS[word])


def read_part(sort, part):
    """A number, or a text that is not empty; None for a kind that stands for no spot."""
    if sort == "number":
        return read_number(part)
    if part == "":
        raise BadText(part)
    return None if sort == "kind" and part == NO_SPOT else part


def read_deed(word, parts):
    """The deed of a line of the right form."""
    return tuple([word] + [read_part(sort, part) for sort, part in zip(FORMS[word], parts)])


def read_script(text):
    """The deeds of a text."""
    deeds = []
    lines = [] if text == "" else text.split("\n")
    for number, line in enumerate(lines, start=1):
        word, *parts = line.split(" ")
        if not has_form(word, parts):
            raise BadLine(number)
        try:
            deed = read_deed(word, parts)
        except BarbreaksError as e:
            raise BadLine(number) from e
        deeds.append(deed)
    return deeds


def perform(desk, text):
    """Does the deeds of a text as one attempt."""
    return desk.attempt(read_script(text))
