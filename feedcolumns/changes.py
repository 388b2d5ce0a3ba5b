"""Sheets that come of another one by a change of one column."""

from feedcolumns.sheets import Sheet, check_column


def _columns(sheet):
    return [(name, sheet.formula_of(name)) for name in sheet.names]


def with_formula(sheet, name, formula):
    """Return a sheet in which a column has another formula."""
    check_column(sheet, name)
    return Sheet(sheet.inputs, [(other, formula if other == name else known) for other, known in _columns(sheet)])


def with_column(sheet, name, formula):
    """Return a sheet with one more column at the end."""
    return Sheet(sheet.inputs, _columns(sheet) + [(name, formula)])


def without_column(sheet, name):
    """Return a sheet without a column."""
    check_column(sheet, name)
    return Sheet(sheet.inputs, [(other, formula) for other, formula in _columns(sheet) if other != name])
