"""Desks, on which a sheet is changed."""

from feedcolumns.changes import with_column, with_formula, without_column
from feedcolumns.errors import NothingToUndo, TooDeep
from feedcolumns.forms import column_forms, common_bottom


class Desk:
    """A sheet that changes, and the calls that changed it."""

    def __init__(self, sheet):
        self._sheet = sheet
        self._most = None
        self._calls = []
        self._sheets_before = []

    @property
    def sheet(self):
        """The present sheet."""
        return self._sheet

    def put(self, name, formula):
        """Give a column another formula."""
        self._change(with_formula(self._sheet, name, formula), ("put", name, tuple(formula)))

    def added(self, name, formula):
        """Add a column at the end."""
        self._change(with_column(self._sheet, name, formula), ("added", name, tuple(formula)))

    def dropped(self, name):
        """Take a column away."""
        self._change(without_column(self._sheet, name), ("dropped", name))

    def _change(self, sheet, call):
        self._sheets_before.append(self._sheet)
        self._calls.append(call)
        self._sheet = sheet

    def undo(self):
        """Take back the last call that is not taken back yet."""
        if not self._calls:
            raise NothingToUndo(0)
        self._calls.pop()
        self._sheet = self._sheets_before.pop()

    def story(self):
        """Return the list of the calls that are not taken back."""
        return [_with_lists(call) for call in self._calls]

    def __len__(self):
        return len(self._calls)

    def __eq__(self, other):
        return (isinstance(other, Desk) and self._sheet == other._sheet and self._calls == other._calls
                and self._most == other._most)


class ShortDesk(Desk):
    """A desk whose columns all have common bottoms of at most a degree."""

    def __init__(self, sheet, most):
        super().__init__(sheet)
        _check_depths(sheet, most)
        self._most = most

    def put(self, name, formula):
        """Give a column another formula."""
        _check_depths(with_formula(self._sheet, name, formula), self._most)
        super().put(name, formula)

    def added(self, name, formula):
        """Add a column at the end."""
        _check_depths(with_column(self._sheet, name, formula), self._most)
        super().added(name, formula)

    def dropped(self, name):
        """Take a column away."""
        _check_depths(without_column(self._sheet, name), self._most)
        super().dropped(name)


def _check_depths(sheet, most):
    for name in sheet.names:
        degree = len(common_bottom(column_forms(sheet, name))) - 1
        if degree > most:
            raise TooDeep(degree)


def _with_lists(call):
    # a formula is kept as a tuple, so that no change of what is returned changes the desk
    return tuple([list(part) if isinstance(part, tuple) else part for part in call])
