"""How the input is read back from a column with one input, and with which delay."""

from math import gcd

from feedcolumns.errors import InvalidForm
from feedcolumns.forms import first_powers
from feedcolumns.polynomials import times


def delay_of(form):
    """Return the number of zeros with which the top begins, None for the form 0."""
    top, bottom = form
    for row, number in enumerate(top):
        if number != 0:
            return row
    return None


def reader(form):
    """Return the form that tells the input from the cells of the column, late by the delay, None if there is none."""
    top, bottom = form
    delay = delay_of(form)
    # the reader is the bottom over the rest of the top: a bottom can begin with 1 only if that
    # rest begins with 1 or -1, as both have no common factor that could be taken out
    if delay is None or abs(top[delay]) != 1:
        return None
    sign = top[delay]
    return [sign * number for number in bottom], [sign * number for number in top[delay:]]


def read_back(form, shown):
    """Return the fractions of the input that the first cells of the column settle, None if no input makes them."""
    top, bottom = form
    delay = delay_of(form)
    if delay is None:
        raise InvalidForm((list(top), list(bottom)))
    if any([cell != 0 for cell in shown[:delay]]):
        return None
    cells = shown[delay:]
    first, *later = top[delay:]
    # with a factor for each row more all numbers are integers: the n-th one is that of the input
    # times first ** (n + 1)
    raised = (_raised(times(bottom, cells), first), [1] + _raised(later, first))
    found = []
    factor = first
    for number in first_powers(raised, len(cells)):
        found.append(_lowest(number, factor))
        factor = factor * first
    return found


def _raised(numbers, factor):
    """Return the numbers, each multiplied by a factor once more than the one before."""
    raised = []
    power = 1
    for number in numbers:
        raised.append(number * power)
        power = power * factor
    return raised


def _lowest(numerator, denominator):
    """Return a fraction in lowest terms, its denominator at least 1."""
    common = gcd(numerator, denominator)
    if denominator < 0:
        common = -common
    return numerator // common, denominator // common
