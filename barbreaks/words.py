"""Names and written numbers."""

from barbreaks.errors import BadText

LETTERS = "abcdefghijklmnopqrstuvwxyz"
DIGITS = "0123456789"
MOST_SIGNS = 12
MOST_DIGITS = 40


def is_name(text):
    """True if the text is 1 to 12 small letters and digits, a letter first."""
    if not 1 <= len(text) <= MOST_SIGNS or text[0] not in LETTERS:
        return False
    return all([sign in LETTERS or sign in DIGITS for sign in text])


def write_number(number):
    """The digits of the number, with a minus before a negative one."""
    return str(number)


def is_number(text):
    """True if the text is a written number of at most 40 digits."""
    if text == "0":
        return True
    digits = text.removeprefix("-")
    if not 1 <= len(digits) <= MOST_DIGITS or digits[0] == "0":
        return False
    return all([sign in DIGITS for sign in digits])


def read_number(text):
    """The number that is written so."""
    if not is_number(text):
        raise BadText(text)
    return int(text)
