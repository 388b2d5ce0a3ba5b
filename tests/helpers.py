"""What the tests work out in ways of their own, to compare the package with."""

import copy
import itertools
import random
import unittest
from fractions import Fraction


class Case(unittest.TestCase):
    def raises(self, kind, value, call, *args, **named):
        """Check that a call raises an error of just this class with this value."""
        with self.assertRaises(kind) as told:
            call(*args, **named)
        self.assertIs(type(told.exception), kind)
        self.assertEqual(told.exception.value, value)

    def check_is_form(self, form):
        self.assertIs(type(form), tuple)
        top, bottom = form
        for numbers in form:
            self.assertIs(type(numbers), list)
            self.assertTrue(all(type(number) is int for number in numbers))
            self.assertTrue(not numbers or numbers[-1] != 0)
        self.assertEqual(bottom[0], 1)
        if top:
            self.assertEqual(common_degree(top, bottom), 0)
        else:
            self.assertEqual(bottom, [1])

    def check_form(self, form, powers):
        """Check that this is the form with these first powers, of which there are enough to tell it."""
        self.check_is_form(form)
        self.assertLess(len(form[0]) + len(form[1]), len(powers))
        self.assertEqual(powers_of(form, len(powers)), powers)

    def check_new(self, call, *args):
        """Check that a call leaves what is passed as it was, and returns new lists, also within lists, each time."""
        before = copy.deepcopy(args)
        told = call(*args)
        wanted = copy.deepcopy(told)
        for _ in range(2):
            self.assertEqual(args, before)
            spoil(told)
            self.assertEqual(args, before)
            told = call(*args)
            self.assertEqual(told, wanted)


def spoil(value):
    """Change every list within a value."""
    if isinstance(value, (list, tuple)):
        for part in value:
            spoil(part)
    if isinstance(value, list):
        value.append("spoilt")
        value.reverse()


def walked(inputs, columns, name, entries, number):
    """The first cells of a column, each one walked back to the inputs cell by cell."""
    formulas = dict(columns)
    known = {}

    def cell(which, row):
        if row < 0:
            return 0
        if which in inputs:
            given = entries[inputs.index(which)]
            return given[row] if row < len(given) else 0
        if (which, row) not in known:
            known[which, row] = sum(
                coefficient * cell(other, row - back) for coefficient, other, back in formulas[which])
        return known[which, row]

    return [cell(name, row) for row in range(number)]


def started(inputs, columns, name, source, number):
    """The first cells of a column if one input is 1 in row 0 and all else is 0."""
    return walked(inputs, columns, name, [[1] if other == source else [] for other in inputs], number)


def random_sheets(seed, number, most_columns=4, most_back=4, most_tuples=6):
    """Inputs and columns, so many times, without a ring within a row."""
    chance = random.Random(seed)
    for _ in range(number):
        inputs = "abc"[:chance.randint(1, 3)]
        names = list("stuv"[:chance.randint(1, most_columns)])
        chance.shuffle(names)
        columns = []
        for at, name in enumerate(names):
            formula = []
            for _ in range(chance.randint(0, most_tuples)):
                other = chance.choice(list(inputs) + names)
                lowest = 1 if other in names[at:] else 0
                coefficient = chance.choice([-9, -3, -2, -1, 1, 2, 3, 9])
                formula.append((coefficient, other, chance.randint(lowest, most_back)))
            columns.append((name, formula))
        chance.shuffle(columns)
        yield inputs, columns


def shortest_ring(columns):
    """The ring that Circular tells, by trying all strings of columns."""
    refers = {(name, other) for name, formula in columns for _, other, back in formula if back == 0}
    names = sorted(name for name, _ in columns)
    # what refers to nothing that is left stands in no ring
    while loose := [name for name in names if not any((name, other) in refers for other in names)]:
        names = [name for name in names if name not in loose]
    for length in range(1, len(names) + 1):
        for ring in itertools.permutations(names, length):
            if all((one, ring[(k + 1) % length]) in refers for k, one in enumerate(ring)):
                return "".join(ring)
    return None


def product(first, second):
    """The product of two polynomials."""
    numbers = [0] * max(0, len(first) + len(second) - 1)
    for at, one in enumerate(first):
        for behind, other in enumerate(second):
            numbers[at + behind] += one * other
    while numbers and numbers[-1] == 0:
        numbers.pop()
    return numbers


def powers_of(form, number):
    """The first powers of a form, by long division."""
    top, bottom = form
    rest = (list(top) + [0] * number)[:number]
    for row in range(number):
        for back, factor in enumerate(bottom[:number - row]):
            if back > 0:
                rest[row + back] -= factor * rest[row]
    return rest


def convolved(first, second, number):
    """The first numbers of the product of two series."""
    return [sum(first[k] * second[row - k] for k in range(row + 1) if k < len(first) and row - k < len(second))
            for row in range(number)]


FACTORS = [[1, -1], [1, 1], [1, -2], [1, 3], [1, 0, 1], [1, -1, -1], [1, 1, 1], [1, 0, 0, -5]]


def random_form(chance, most_factors=3):
    """A form, the numbers of which are products of few factors, so that it has some in common with others."""
    if chance.randint(0, 19) == 0:
        return [], [1]
    while True:
        top = [0] * chance.choice([0, 0, 1, 3]) + [chance.choice([-6, -2, -1, 1, 1, 1, 5])]
        bottom = [1]
        for _ in range(chance.randint(0, most_factors)):
            bottom = product(bottom, chance.choice(FACTORS))
        for _ in range(chance.randint(0, most_factors)):
            top = product(top, chance.choice(FACTORS + [[2, 1], [3, -1, 4]]))
        if common_degree(top, bottom) == 0:
            return top, bottom


def great_form(chance, length=17):
    """A form with so many great numbers in both polynomials."""
    while True:
        top = [chance.randint(-10 ** 30, 10 ** 30) for _ in range(length)]
        bottom = [1] + [chance.randint(-10 ** 30, 10 ** 30) for _ in range(length - 1)]
        if common_degree(top, bottom) == 0:
            return top, bottom


def formula_with(name, source, form):
    """A formula of a column by itself and what it is fed with, that has a form."""
    top, bottom = form
    return ([(number, source, back) for back, number in enumerate(top) if number != 0]
            + [(-number, name, back) for back, number in enumerate(bottom) if back > 0 and number != 0])


def divisor(first, second, zero):
    """The greatest common factor of two polynomials over a field, by Euclid."""
    while second:
        while len(first) >= len(second):
            factor = first[-1] / second[-1]
            shift = len(first) - len(second)
            first = [x - (factor * second[k - shift] if k >= shift else zero) for k, x in enumerate(first)]
            while first and first[-1] == zero:
                first.pop()
        first, second = second, first
    return first


class Remainder:
    """A number modulo a great prime."""

    PRIME = 2 ** 61 - 1

    def __init__(self, number):
        self.number = number % self.PRIME

    def __sub__(self, other):
        return Remainder(self.number - other.number)

    def __mul__(self, other):
        return Remainder(self.number * other.number)

    def __truediv__(self, other):
        return Remainder(self.number * pow(other.number, -1, self.PRIME))

    def __eq__(self, other):
        return self.number == other.number


def common_degree(first, second):
    """The degree of the greatest common factor of two polynomials, by Euclid."""
    # a common factor is one of the remainders, too, if its last number does not vanish: this is
    # faster than fractions, and nearly always it settles that there is none
    if first and second and first[-1] % Remainder.PRIME and second[-1] % Remainder.PRIME:
        if len(divisor([Remainder(x) for x in first], [Remainder(x) for x in second], Remainder(0))) == 1:
            return 0
    return len(divisor([Fraction(x) for x in first], [Fraction(x) for x in second], Fraction(0))) - 1


def solvable(rows, wanted):
    """Whether some fractions, one for each place of a row, make the rows come to what is wanted."""
    rows = [[Fraction(x) for x in row] + [Fraction(y)] for row, y in zip(rows, wanted)]
    places = len(rows[0]) - 1 if rows else 0
    for place in range(places):
        pivots = [row for row in rows if row[place] != 0]
        if not pivots:
            continue
        pivot = pivots[0]
        rest = [row for row in rows if row is not pivot]
        rows = [[x - row[place] / pivot[place] * y for x, y in zip(row, pivot)] for row in rest]
    return all(row[-1] == 0 for row in rows)


def divided(first, second):
    """The first polynomial divided by the second one, which begins with 1 and leaves nothing."""
    rest, numbers = list(first), []
    while len(rest) >= len(second):
        numbers.append(rest[0])
        rest = [x - numbers[-1] * (second[k] if k < len(second) else 0) for k, x in enumerate(rest)][1:]
    assert not any(rest)
    return numbers


def root_polynomial(number):
    """The polynomial, beginning with 1, of the primitive N-th roots of 1: 1 - x ** N without the other roots."""
    left = [1] + [0] * (number - 1) + [-1]
    for part in range(1, number):
        if number % part == 0:
            left = divided(left, root_polynomial(part))
    return left


def rank(rows):
    """How many of these rows of integers do not depend on the others."""
    rows = [[Fraction(x) for x in row] for row in rows]
    found = 0
    while rows and rows[0]:
        pivots = [row for row in rows if row[0] != 0]
        if pivots:
            found += 1
            rows = [[x - row[0] / pivots[0][0] * y for x, y in zip(row, pivots[0])]
                    for row in rows if row is not pivots[0]]
        rows = [row[1:] for row in rows]
    return found
