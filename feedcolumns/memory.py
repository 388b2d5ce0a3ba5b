"""What a column still feels of its inputs, and how great its cells can become."""

from feedcolumns.errors import InvalidNumber
from feedcolumns.forms import column_forms


def felt(sheet, name):
    """Return for each input the numbers of rows back at which a column feels it, None if they never end."""
    return [_felt_backs(top) if bottom == [1] else None for top, bottom in column_forms(sheet, name)]


def _felt_backs(top):
    return [back for back, factor in enumerate(top) if factor != 0]


def bound(sheet, name, limit):
    """Return the greatest absolute value of a cell for inputs within a limit, None if there is none."""
    factors = _factors(sheet, name, limit)
    if factors is None:
        return None
    return limit * sum([abs(factor) for row in factors for factor in row])


def reaching(sheet, name, limit):
    """Return inputs that make a cell as great as it can become, None if there is no bound."""
    factors = _factors(sheet, name, limit)
    if factors is None:
        return None
    rows = max([len(row) for row in factors], default=0)
    # what is fed last is felt 0 rows back
    return [[_signed(limit, factor) for factor in reversed(row + [0] * (rows - len(row)))] for row in factors]


def _factors(sheet, name, limit):
    """Return for each input the factors by rows back, None if a column feels one for ever."""
    forms = column_forms(sheet, name)
    if limit < 0:
        raise InvalidNumber(limit)
    if [bottom for top, bottom in forms if bottom != [1]]:
        return None
    return [top for top, bottom in forms]


def _signed(limit, factor):
    if factor == 0:
        return 0
    return limit if factor > 0 else -limit
