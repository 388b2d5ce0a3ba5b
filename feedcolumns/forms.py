"""Forms: one fraction of polynomials in least terms for each column and input."""

from feedcolumns.errors import InvalidForm, InvalidName, InvalidNumber
from feedcolumns.polynomials import common_factor, common_multiple, minus, plus, quotient, times
from feedcolumns.sheets import check_column


def column_form(sheet, name, source):
    """Return the form of a column and an input."""
    check_column(sheet, name)
    # "in" of a string would take "" and "ab" for inputs
    if source not in list(sheet.inputs):
        raise InvalidName(source)
    top, bottom = column_fraction(sheet, name, source)
    return reduced(top, bottom)


def column_fraction(sheet, name, source):
    """Return the top and the bottom of a column and an input as determinants, common factors left in.

    The bottom begins with 1, and both grow evenly with each coefficient of a formula.
    """
    names = [other for other in sheet.names if other != name] + [name]
    return last_unknown([_equation(sheet, column, names, source) for column in names])


def _equation(sheet, column, names, source):
    """Return the polynomials by which the columns add up to what an input gives, and behind them the latter."""
    parts = {other: [] for other in names}
    parts[column] = [1]
    given = []
    for coefficient, other, back in sheet.formula_of(column):
        term = [0] * back + [coefficient]
        if other == source:
            given = plus(given, term)
        elif other in parts:
            parts[other] = minus(parts[other], term)
    return [parts[other] for other in names] + [given]


def last_unknown(rows):
    """Return the top and the bottom of the last unknown of these equations, each a determinant.

    The rows hold the polynomials of the unknowns and behind them what they add up to; the unknowns
    must be such that within one row of cells none of them depends on itself.
    """
    # so the first polynomial of the first row is always a determinant that begins with 1: it is
    # not 0, and a division by it leaves nothing
    before = [1]
    while len(rows) > 1:
        first, *above = rows[0]
        rows = [_row_without_first(row, first, above, before) for row in rows[1:]]
        before = first
    bottom, top = rows[0]
    return top, bottom


def _row_without_first(row, first, above, before):
    factor, *rest = row
    return [quotient(minus(times(first, part), times(factor, over)), before) for part, over in zip(rest, above)]


def reduced(top, bottom):
    """Return the form with the same powers as two polynomials."""
    if not bottom:
        raise InvalidForm((list(top), list(bottom)))
    common = common_factor(top, bottom)
    least_top, least_bottom = quotient(top, common), quotient(bottom, common)
    unit = least_bottom[0]
    if unit == 0 or [number for number in least_top + least_bottom if number % unit != 0]:
        raise InvalidForm((list(top), list(bottom)))
    return [number // unit for number in least_top], [number // unit for number in least_bottom]


def column_forms(sheet, name):
    """Return the list of the forms of a column, one for each input."""
    check_column(sheet, name)
    return [column_form(sheet, name, source) for source in sheet.inputs]


def first_powers(form, number):
    """Return the list of the first powers of a form, so many."""
    if number < 0:
        raise InvalidNumber(number)
    top, bottom = form
    powers = []
    for row in range(number):
        fed = top[row] if row < len(top) else 0
        led = sum([bottom[back] * powers[row - back] for back in range(1, min(row + 1, len(bottom)))])
        powers.append(fed - led)
    return powers


def common_bottom(forms):
    """Return the least common multiple, beginning with 1, of the bottoms of some forms."""
    common = [1]
    for top, bottom in forms:
        common = common_multiple(common, bottom)
    return common


def top_over(form, common):
    """Return the top of the same fraction over a multiple of the bottom of a form."""
    top, bottom = form
    return times(top, quotient(common, bottom))


def _terms(name, numbers):
    return [(number, name, back) for back, number in enumerate(numbers) if number != 0]


def shortest_formula(sheet, name):
    """Return the formula of a column by itself and the inputs that has the fewest rows back."""
    forms = column_forms(sheet, name)
    common = common_bottom(forms)
    formula = _terms(name, minus([1], common))
    for source, form in zip(list(sheet.inputs), forms):
        formula.extend(_terms(source, top_over(form, common)))
    return formula
