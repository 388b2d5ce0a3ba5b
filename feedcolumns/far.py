"""Powers, their sums and cells in far rows, by their remainders."""

from feedcolumns.errors import InvalidNumber
from feedcolumns.forms import column_forms
from feedcolumns.polynomials import times


def power_at(form, row, modulus):
    """Return the remainder of the power of a form in a row."""
    if row < 0:
        raise InvalidNumber(row)
    top, bottom = form
    left = row
    while left > 0:
        # with the bottom at -x as a factor of both, the bottom has even powers of x alone, so
        # that half of the rows can be left out
        turned = [-number if at % 2 == 1 else number for at, number in enumerate(bottom)]
        top = [number % modulus for number in times(top, turned)[left % 2::2]]
        bottom = [number % modulus for number in times(bottom, turned)[::2]]
        left = left // 2
    return top[0] % modulus if top else 0


def total_at(form, row, modulus):
    """Return the remainder of the sum of the powers of a form in the rows from 0 to a row."""
    top, bottom = form
    return power_at((top, times(bottom, [1, -1])), row, modulus)


def cell_at(sheet, name, stretches, row, modulus):
    """Return the remainder of the cell of a column in a row, for inputs that stay the same over stretches."""
    forms = column_forms(sheet, name)
    if row < 0:
        raise InvalidNumber(row)
    total = 0
    for form, parts in zip(forms, stretches):
        for begin, change in _changes(parts):
            if begin <= row:
                total += change * total_at(form, row - begin, modulus)
    return total % modulus


def _changes(parts):
    """Return the tuples of a row and how much greater the input is from there on."""
    changes = []
    begin = 0
    known = 0
    for count, number in parts:
        changes.append((begin, number - known))
        begin += count
        known = number
    return changes + [(begin, -known)]
