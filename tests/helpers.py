"""What the tests work out in ways of their own, to compare the package with."""

import random
import unittest
from fractions import Fraction


class Case(unittest.TestCase):
    def raises(self, kind, value, call, *args, **named):
        """Check that a call raises an error of just this class with this value."""
        with self.assertRaises(kind) as told:
            call(*args, **named)
        self.assertIs(type(told.exception), kind)
        self.assertEqual(told.exception.value, value)


def walked(inputs, columns, name, entries, number):
    """The first cells of a column, each one walked back to the inputs cell by cell."""
    formulas = dict(columns)
    known = {}

    def cell(which, row):
        if row < 0:
            return 0
        if which in inputs:
            given = entries[inputs.index(which)]
            return given[row] if row < len(given) else 0
        if (which, row) not in known:
            known[which, row] = sum(
                coefficient * cell(other, row - back) for coefficient, other, back in formulas[which])
        return known[which, row]

    return [cell(name, row) for row in range(number)]


def started(inputs, columns, name, source, number):
    """The first cells of a column if one input is 1 in row 0 and all else is 0."""
    return walked(inputs, columns, name, [[1] if other == source else [] for other in inputs], number)


def random_sheets(seed, number, most_columns=4, most_back=4, most_tuples=6):
    """Inputs and columns, so many times, without a ring within a row."""
    chance = random.Random(seed)
    for _ in range(number):
        inputs = "abc"[:chance.randint(1, 3)]
        names = list("stuv"[:chance.randint(1, most_columns)])
        chance.shuffle(names)
        columns = []
        for at, name in enumerate(names):
            formula = []
            for _ in range(chance.randint(0, most_tuples)):
                other = chance.choice(list(inputs) + names)
                lowest = 1 if other in names[at:] else 0
                coefficient = chance.choice([-9, -3, -2, -1, 1, 2, 3, 9])
                formula.append((coefficient, other, chance.randint(lowest, most_back)))
            columns.append((name, formula))
        chance.shuffle(columns)
        yield inputs, columns


def product(first, second):
    """The product of two polynomials."""
    numbers = [0] * max(0, len(first) + len(second) - 1)
    for at, one in enumerate(first):
        for behind, other in enumerate(second):
            numbers[at + behind] += one * other
    while numbers and numbers[-1] == 0:
        numbers.pop()
    return numbers


def common_degree(first, second):
    """The degree of the greatest common factor of two polynomials, by Euclid with fractions."""
    first, second = [Fraction(x) for x in first], [Fraction(x) for x in second]
    while second:
        while len(first) >= len(second):
            factor = first[-1] / second[-1]
            shift = len(first) - len(second)
            first = [x - (factor * second[k - shift] if k >= shift else 0) for k, x in enumerate(first)]
            while first and first[-1] == 0:
                first.pop()
        first, second = second, first
    return len(first) - 1


def solvable(rows, wanted):
    """Whether some fractions, one for each place of a row, make the rows come to what is wanted."""
    rows = [[Fraction(x) for x in row] + [Fraction(y)] for row, y in zip(rows, wanted)]
    places = len(rows[0]) - 1 if rows else 0
    for place in range(places):
        pivots = [row for row in rows if row[place] != 0]
        if not pivots:
            continue
        pivot = pivots[0]
        rest = [row for row in rows if row is not pivot]
        rows = [[x - row[place] / pivot[place] * y for x, y in zip(row, pivot)] for row in rest]
    return all(row[-1] == 0 for row in rows)


def divided(first, second):
    """The first polynomial divided by the second one, which begins with 1 and leaves nothing."""
    rest, numbers = list(first), []
    while len(rest) >= len(second):
        numbers.append(rest[0])
        rest = [x - numbers[-1] * (second[k] if k < len(second) else 0) for k, x in enumerate(rest)][1:]
    assert not any(rest)
    return numbers


def root_polynomial(number):
    """The polynomial, beginning with 1, of the primitive N-th roots of 1: 1 - x ** N without the other roots."""
    left = [1] + [0] * (number - 1) + [-1]
    for part in range(1, number):
        if number % part == 0:
            left = divided(left, root_polynomial(part))
    return left


def rank(rows):
    """How many of these rows of integers do not depend on the others."""
    rows = [[Fraction(x) for x in row] for row in rows]
    found = 0
    while rows and rows[0]:
        pivots = [row for row in rows if row[0] != 0]
        if pivots:
            found += 1
            rows = [[x - row[0] / pivots[0][0] * y for x, y in zip(row, pivots[0])]
                    for row in rows if row is not pivots[0]]
        rows = [row[1:] for row in rows]
    return found
