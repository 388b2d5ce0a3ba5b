"""Inputs behind which columns are at rest, forms told from cells, and coefficients that make a wanted form."""

from math import gcd

from feedcolumns.changes import with_formula
from feedcolumns.errors import InvalidForm, InvalidNumber
from feedcolumns.forms import column_form, column_fraction, common_bottom, first_powers, reduced
from feedcolumns.polynomials import minus, plus, primitive, share, times, trimmed


def last_row(form, numbers):
    """Return the last row that is not 0 behind an input of these numbers, -1 if all are 0, None if there is none."""
    top, bottom = form
    # top and bottom have no common factor, so all of the bottom must come out of the input
    left = share(trimmed(numbers), bottom)
    if left is None:
        return None
    return len(times(left, top)) - 1


def resting(sheet):
    """Return the shortest input, beginning with 1, behind which all columns of a sheet come to rest."""
    return common_bottom([column_form(sheet, name, sheet.inputs[0]) for name in sheet.names])


def told_form(numbers):
    """Return the form with these first powers and at most so many numbers as these settle, None if there is none."""
    top, bottom = _short_fraction(numbers, len(numbers) // 2)
    try:
        form = reduced(top, bottom)
    except InvalidForm:
        return None
    # a factor x that came out leaves a fraction with other first powers
    return form if first_powers(form, len(numbers)) == numbers else None


def _short_fraction(numbers, most):
    """Return the top, of at most so many numbers, and the bottom that Euclid's steps find for these first powers.

    In each step the bottom times the numbers is the top, but for what lies behind these numbers.
    """
    before = ([0] * len(numbers) + [1], [])
    found = (trimmed(numbers), [1])
    while len(found[0]) > most:
        before, found = found, _step(before, found)
    return found


def _step(before, found):
    """Return what is left of a multiple of a top behind division by another one, and the bottom that goes with it."""
    top, bottom = before
    divisor, beside = found
    while len(top) >= len(divisor):
        common = gcd(top[-1], divisor[-1])
        raised, taken = [divisor[-1] // common], [0] * (len(top) - len(divisor)) + [top[-1] // common]
        top = minus(times(top, raised), times(taken, divisor))
        bottom = minus(times(bottom, raised), times(taken, beside))
    # without the common integer factor the numbers would grow with each step
    least = primitive(top + bottom)
    return least[:len(top)], least[len(top):]


def fitting(sheet, name, place, form):
    """Return the coefficient in a place of a formula with which a column has a form, "all" or None."""
    formula = sheet.formula_of(name)
    if not 0 <= place < len(formula):
        raise InvalidNumber(place)
    without = _difference(_with_coefficient(sheet, name, place, 0), name, form)
    with_one = _difference(_with_coefficient(sheet, name, place, 1), name, form)
    return _vanishing(without, minus(with_one, without))


def _with_coefficient(sheet, name, place, number):
    formula = sheet.formula_of(name)
    coefficient, other, back = formula[place]
    formula[place] = (number, other, back)
    return with_formula(sheet, name, formula)


def _difference(sheet, name, form):
    """Return a polynomial that is 0 if a column has a form, and grows evenly with each coefficient."""
    top, bottom = form
    column_top, column_bottom = column_fraction(sheet, name, sheet.inputs[0])
    return minus(times(column_top, bottom), times(top, column_bottom))


def _vanishing(start, growing):
    """Return the integer so many times a polynomial makes 0 of another one, "all" or None."""
    if not growing:
        return None if start else "all"
    last = len(growing) - 1
    number = -start[last] // growing[last] if last < len(start) else 0
    return None if plus(start, times([number], growing)) else number
