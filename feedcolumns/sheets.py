"""Sheets: inputs, and columns that are filled down."""

from feedcolumns.errors import Circular, InvalidFormula, InvalidName, InvalidNumber


def check_column(sheet, name):
    """Raise InvalidName if a sheet has no such column."""
    if name not in sheet.names:
        raise InvalidName(name)


def _is_letter(name):
    return len(name) == 1 and "a" <= name <= "z"


def _check_names(names):
    for at, name in enumerate(names):
        if not _is_letter(name) or name in names[:at]:
            raise InvalidName(name)


def _check_formulas(names, columns):
    for name, formula in columns:
        if [other for coefficient, other, back in formula if other not in names]:
            raise InvalidFormula(name)


def _check_rings(columns):
    ring = _first_ring(_beside(columns))
    if ring:
        raise Circular(ring)


def _beside(columns):
    """Return, for each column, the ascending list of the columns to which it refers within a row."""
    names = [name for name, formula in columns]
    return {
        name: sorted(set([other for coefficient, other, back in formula if back == 0 and other in names]))
        for name, formula in columns
    }


def _first_ring(beside):
    """Return the shortest ring within a row, of several the first string, "" if there is none."""
    best = ""
    for start in sorted(beside):
        ring = _ring_from(beside, start)
        if ring and (not best or len(ring) < len(best)):
            best = ring
    return best


def _ring_from(beside, start):
    """Return the shortest ring that begins with a column, of several the first string, "" if there is none."""
    reached = [start]
    paths = [start]
    while paths:
        # the paths of one length ascend, so the first one that closes is the first string
        for path in paths:
            if start in beside[path[-1]]:
                return path
        longer = []
        for path in paths:
            for name in beside[path[-1]]:
                if name not in reached:
                    reached.append(name)
                    longer.append(path + name)
        paths = longer
    return ""


def _filling_order(columns):
    """Return the columns, each one behind those to which it refers within a row."""
    beside = _beside(columns)
    order = []
    placed = []
    while len(order) < len(columns):
        for name, formula in columns:
            if name not in placed and all([other in placed for other in beside[name]]):
                placed.append(name)
                order.append((name, formula))
    return order


def _cell(cells, row):
    """Return a cell, 0 above the first and behind the last one that there is."""
    return cells[row] if 0 <= row < len(cells) else 0


def _filled(formula, known, row):
    """Return the cell that a formula gives in a row."""
    return sum([coefficient * _cell(known[other], row - back) for coefficient, other, back in formula])


class Sheet:
    """A sheet: a string of inputs, and columns with their formulas. It never changes."""

    def __init__(self, inputs, columns):
        names = list(inputs) + [name for name, formula in columns]
        _check_names(names)
        _check_formulas(names, columns)
        _check_rings(columns)
        self._inputs = inputs
        self._columns = [(name, tuple(formula)) for name, formula in columns]

    @property
    def inputs(self):
        """The string of the inputs."""
        return self._inputs

    @property
    def names(self):
        """The list of the names of the columns."""
        return [name for name, formula in self._columns]

    def formula_of(self, name):
        """Return the formula of a column, as it was passed."""
        check_column(self, name)
        return list(dict(self._columns)[name])

    def cells(self, name, entries, number):
        """Return the first cells of a column, so many, for the first rows of each input."""
        check_column(self, name)
        if number < 0:
            raise InvalidNumber(number)
        known = dict(zip(list(self._inputs), entries))
        known.update({column: [] for column in self.names})
        order = _filling_order(self._columns)
        for row in range(number):
            for column, formula in order:
                known[column].append(_filled(formula, known, row))
        return known[name]

    def __eq__(self, other):
        return isinstance(other, Sheet) and self._inputs == other._inputs and self._columns == other._columns
