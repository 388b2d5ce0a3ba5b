"""Which columns are alike, where others part, and with which factors columns add up to 0."""

from feedcolumns.errors import UnlikeInputs
from feedcolumns.forms import column_form, column_forms, common_bottom, top_over
from feedcolumns.polynomials import minus, times
from feedcolumns.sheets import check_column


def _check_pair(sheet, name, other_sheet, other_name):
    if sheet.inputs != other_sheet.inputs:
        raise UnlikeInputs((sheet.inputs, other_sheet.inputs))
    check_column(sheet, name)
    check_column(other_sheet, other_name)


def are_alike(sheet, name, other_sheet, other_name):
    """Return whether the cells of two columns are equal for all inputs."""
    _check_pair(sheet, name, other_sheet, other_name)
    return column_forms(sheet, name) == column_forms(other_sheet, other_name)


def parting(sheet, name, other_sheet, other_name):
    """Return the first row, input and difference at which a single 1 parts two columns, None if none does."""
    _check_pair(sheet, name, other_sheet, other_name)
    best = None
    for source in sheet.inputs:
        found = _first_difference(column_form(sheet, name, source), column_form(other_sheet, other_name, source))
        if found is not None and (best is None or found[0] < best[0]):
            row, difference = found
            best = (row, source, difference)
    return best


def _first_difference(first, second):
    """Return the first row in which the powers of two forms differ, and by how much, None if in none."""
    top, bottom = first
    other_top, other_bottom = second
    # the product of the bottoms begins with 1, so the first power of the difference that is
    # not 0 is the first number of its top that is not 0
    differences = minus(times(top, other_bottom), times(other_top, bottom))
    for row, difference in enumerate(differences):
        if difference != 0:
            return row, difference
    return None


def classes(sheet):
    """Return the list of the lists of the names of alike columns."""
    names = sorted(sheet.names)
    forms = {name: column_forms(sheet, name) for name in names}
    firsts = [name for at, name in enumerate(names) if forms[name] not in [forms[other] for other in names[:at]]]
    return [[name for name in names if forms[name] == forms[first]] for first in firsts]


def relations(sheet):
    """Return the rows of factors with which the columns add up to 0, in steps."""
    tops = _tops(sheet)
    width = len(tops[0])
    # each row notes behind the numbers that are to vanish how it was made of the columns
    made = [top + _unit(at, len(tops)) for at, top in enumerate(tops)]
    return [row[width:] for row in _in_steps(made) if not any(row[:width])]


def _tops(sheet):
    """Return a row for each column: the tops of its forms over the bottoms that all columns have in common."""
    rows = [[] for name in sheet.names]
    for source in sheet.inputs:
        forms = [column_form(sheet, name, source) for name in sheet.names]
        common = common_bottom(forms)
        tops = [top_over(form, common) for form in forms]
        width = max([len(top) for top in tops])
        rows = [row + top + [0] * (width - len(top)) for row, top in zip(rows, tops)]
    return rows


def _unit(at, width):
    return [1 if place == at else 0 for place in range(width)]


def _in_steps(rows):
    """Return rows in steps with the same sums of integer multiples as these rows, none of which depends on others."""
    steps = []
    left = rows
    place = 0
    while left:
        lead, others = _lead_and_others(left, place)
        if lead[place] < 0:
            lead = [-number for number in lead]
        if lead[place] > 0:
            steps = [_less(row, row[place] // lead[place], lead) for row in steps] + [lead]
            left = others
        place += 1
    return steps


def _lead_and_others(rows, place):
    """Return a row, and others that are 0 in a place, with the same sums of integer multiples as these rows."""
    lead, *rest = rows
    others = []
    for row in rest:
        other = row
        while other[place] != 0:
            lead, other = other, _less(lead, lead[place] // other[place], other)
        others.append(other)
    return lead, others


def _less(row, factor, other):
    return [number - factor * taken for number, taken in zip(row, other)]
