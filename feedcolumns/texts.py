"""Sheets and forms as texts."""


def show_sheet(sheet):
    """Return the text of a sheet."""
    return "; ".join([sheet.inputs] + [_shown_column(name, sheet.formula_of(name)) for name in sheet.names])


def _shown_column(name, formula):
    return " ".join([name, "="] + [f"{coefficient}{other}{back}" for coefficient, other, back in formula])


def show_form(form):
    """Return the text of a form."""
    top, bottom = form
    return f"{_shown_numbers(top or [0])} / {_shown_numbers(bottom)}"


def _shown_numbers(numbers):
    return " ".join([str(number) for number in numbers])
