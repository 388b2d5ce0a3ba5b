"""What the tests work out in ways of their own, to compare the package with."""

import random
from fractions import Fraction


def walked(inputs, columns, name, entries, number):
    """The first cells of a column, each one walked back to the inputs cell by cell."""
    formulas = dict(columns)
    known = {}

    def cell(which, row):
        if row < 0:
            return 0
        if which in inputs:
            given = entries[inputs.index(which)]
            return given[row] if row < len(given) else 0
        if (which, row) not in known:
            known[which, row] = sum(
                coefficient * cell(other, row - back) for coefficient, other, back in formulas[which])
        return known[which, row]

    return [cell(name, row) for row in range(number)]


def started(inputs, columns, name, source, number):
    """The first cells of a column if one input is 1 in row 0 and all else is 0."""
    return walked(inputs, columns, name, [[1] if other == source else [] for other in inputs], number)


def random_sheets(seed, number, most_columns=4, most_back=4, most_tuples=6):
    """Inputs and columns, so many times, without a ring within a row."""
    chance = random.Random(seed)
    for _ in range(number):
        inputs = "abc"[:chance.randint(1, 3)]
        names = list("stuv"[:chance.randint(1, most_columns)])
        chance.shuffle(names)
        columns = []
        for at, name in enumerate(names):
            formula = []
            for _ in range(chance.randint(0, most_tuples)):
                other = chance.choice(list(inputs) + names)
                lowest = 1 if other in names[at:] else 0
                coefficient = chance.choice([-9, -3, -2, -1, 1, 2, 3, 9])
                formula.append((coefficient, other, chance.randint(lowest, most_back)))
            columns.append((name, formula))
        chance.shuffle(columns)
        yield inputs, columns


def product(first, second):
    """The product of two polynomials."""
    numbers = [0] * max(0, len(first) + len(second) - 1)
    for at, one in enumerate(first):
        for behind, other in enumerate(second):
            numbers[at + behind] += one * other
    while numbers and numbers[-1] == 0:
        numbers.pop()
    return numbers


def common_degree(first, second):
    """The degree of the greatest common factor of two polynomials, by Euclid with fractions."""
    first, second = [Fraction(x) for x in first], [Fraction(x) for x in second]
    while second:
        while len(first) >= len(second):
            factor = first[-1] / second[-1]
            shift = len(first) - len(second)
            first = [x - (factor * second[k - shift] if k >= shift else 0) for k, x in enumerate(first)]
            while first and first[-1] == 0:
                first.pop()
        first, second = second, first
    return len(first) - 1


def solvable(rows, wanted):
    """Whether some fractions, one for each place of a row, make the rows come to what is wanted."""
    rows = [[Fraction(x) for x in row] + [Fraction(y)] for row, y in zip(rows, wanted)]
    places = len(rows[0]) - 1 if rows else 0
    for place in range(places):
        pivots = [row for row in rows if row[place] != 0]
        if not pivots:
            continue
        pivot = pivots[0]
        rest = [row for row in rows if row is not pivot]
        rows = [[x - row[place] / pivot[place] * y for x, y in zip(row, pivot)] for row in rest]
    return all(row[-1] == 0 for row in rows)
