"""Sheets and forms read from their texts."""

from feedcolumns.errors import FeedError, Unreadable
from feedcolumns.forms import reduced
from feedcolumns.polynomials import trimmed
from feedcolumns.sheets import Sheet

MOST_DIGITS = 40


def read_sheet(text):
    """Return the sheet with a text."""
    parts = text.split("; ")
    inputs = parts[0]
    columns = [_column(part) for part in parts[1:]]
    if not inputs or not columns or None in columns:
        raise Unreadable(text)
    try:
        return Sheet(inputs, columns)
    except FeedError:
        raise Unreadable(text) from None


def _column(text):
    """Return the name and the formula with a text, None if none has it."""
    words = text.split(" ")
    formula = [_term(word) for word in words[2:]]
    if words[1:2] != ["="] or None in formula:
        return None
    return words[0], formula


def _term(text):
    """Return the coefficient, the name and the back with a text, None if none have it."""
    names = [sign for sign in text if "a" <= sign <= "z"]
    if not names:
        return None
    left, name, right = text.partition(names[0])
    coefficient, back = _integer(left), _integer(right)
    if not coefficient or back is None or back < 0:
        return None
    return coefficient, name, back


def _integer(text):
    """Return the integer with a text, None if none has it."""
    digits = text.removeprefix("-")
    if not 1 <= len(digits) <= MOST_DIGITS or [sign for sign in digits if not "0" <= sign <= "9"]:
        return None
    number = int(text)
    # leading zeros and -0 would be lost
    return number if str(number) == text else None


def read_form(text):
    """Return the form with a text."""
    numbers = [_integers(part) for part in text.split(" / ")]
    if len(numbers) != 2 or None in numbers:
        raise Unreadable(text)
    top, bottom = numbers
    form = ([] if top == [0] else top, bottom)
    if not _is_form(form):
        raise Unreadable(text)
    return form


def _integers(text):
    """Return the integers with a text, None if none have it."""
    numbers = [_integer(word) for word in text.split(" ")]
    return None if None in numbers else numbers


def _is_form(form):
    top, bottom = form
    # what ends with 0 is no polynomial, and only what begins with 1 is surely in least terms over the integers
    if trimmed(top) != top or trimmed(bottom) != bottom or bottom[0] != 1:
        return False
    return reduced(top, bottom) == form
