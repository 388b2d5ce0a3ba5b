import math
import random
import unittest

from feedcolumns.errors import InvalidName, InvalidNumber
from feedcolumns.far import cell_at, power_at, total_at
from feedcolumns.forms import first_powers
from feedcolumns.sheets import Sheet
from helpers import Case, great_form, powers_of, product, random_form, random_sheets

GREAT = 10 ** 30
MODULI = [1, 2, 7, 10, 97, 10 ** 9 + 7, 10 ** 12 - 11, 10 ** 12]
NONE = ([], [1])
ONE = ([1], [1])
SUM = ([1], [1, -1])
PAIRS = ([1], [1, -1, -1])
SUMS = [("s", [(1, "s", 1), (1, "a", 0)])]


def far_power(form, row, modulus):
    """The remainder of a far power, by the remainder of x ** row behind division by the bottom turned round."""
    top, bottom = form
    degree = len(bottom) - 1
    known = powers_of(form, len(top) + degree)
    if row < len(known):
        return known[row] % modulus
    if degree == 0:
        return 0

    def left(numbers):
        numbers = [number % modulus for number in numbers]
        while len(numbers) > degree:
            lead = numbers.pop()
            for back in range(1, degree + 1):
                numbers[-back] = (numbers[-back] - lead * bottom[back]) % modulus
        return numbers + [0] * (degree - len(numbers))

    found = left([1])
    for digit in f"{row - len(top):b}":
        square = [0] * (2 * degree - 1)
        for at, one in enumerate(found):
            for other_at, other in enumerate(found):
                square[at + other_at] += one * other
        found = left([0] + square if digit == "1" else square)
    return sum(number * power for number, power in zip(found, known[len(top):])) % modulus


def far_cell(inputs, columns, name, stretches, row, modulus):
    """The remainder of a far cell, by powers of the matrix that takes four rows of all cells one row on."""
    names = list(inputs) + [column for column, _ in columns]
    formulas = dict(columns)
    width = 4 * len(names) + len(inputs)

    def step(vector):
        before = {other: vector[4 * at:4 * at + 4] for at, other in enumerate(names)}
        fed = dict(zip(inputs, vector[4 * len(names):]))
        now = {}

        def cell(other):
            if other in fed:
                return fed[other]
            if other not in now:
                now[other] = sum(coefficient * (cell(one) if back == 0 else before[one][back - 1])
                                 for coefficient, one, back in formulas[other])
            return now[other]

        return [number for other in names for number in [cell(other)] + before[other][:3]] + list(fed.values())

    units = [step([int(at == place) for at in range(width)]) for place in range(width)]
    squares = [[[unit[at] % modulus for unit in units] for at in range(width)]]
    for _ in range(row.bit_length()):
        turned = list(zip(*squares[-1]))
        squares.append([[sum(x * y for x, y in zip(line, beside)) % modulus for beside in turned]
                        for line in squares[-1]])
    begins = {0}
    for parts in stretches:
        for k in range(len(parts)):
            begins.add(sum(count for count, _ in parts[:k + 1]))
    rows = sorted(begin for begin in begins if begin <= row) + [row + 1]
    vector = [0] * width
    for begin, end in zip(rows, rows[1:]):
        vector[4 * len(names):] = [number_in(parts, begin) for parts in stretches]
        for at, digit in enumerate(reversed(f"{end - begin:b}")):
            if digit == "1":
                vector = [sum(x * y for x, y in zip(line, vector)) % modulus for line in squares[at]]
    return vector[4 * names.index(name)] % modulus


def number_in(parts, row):
    """The number of an input in a row."""
    for count, number in parts:
        if row < count:
            return number
        row -= count
    return 0


class PowerTest(Case):
    def check(self, form, row, modulus):
        power = power_at(form, row, modulus)
        self.assertIs(type(power), int)
        self.assertTrue(0 <= power < modulus)
        self.assertEqual(power, far_power(form, row, modulus))
        total = total_at(form, row, modulus)
        self.assertIs(type(total), int)
        self.assertTrue(0 <= total < modulus)
        before = total_at(form, row - 1, modulus) if row > 0 else 0
        self.assertEqual((total - before) % modulus, power)

    def test_near_rows(self):
        chance = random.Random(111)
        for form in [random_form(chance) for _ in range(60)] + [NONE, ONE, SUM, PAIRS, ([0, 0, -5], [1])]:
            powers = first_powers(form, 40)
            for modulus in MODULI:
                with self.subTest(form=form, modulus=modulus):
                    self.assertEqual([power_at(form, row, modulus) for row in range(40)],
                                     [power % modulus for power in powers])
                    self.assertEqual([total_at(form, row, modulus) for row in range(40)],
                                     [sum(powers[:row + 1]) % modulus for row in range(40)])

    def test_far_rows(self):
        chance = random.Random(112)
        for _ in range(60):
            form = random_form(chance)
            for row in [chance.randint(40, 10 ** 4), 2 ** 64, chance.randint(0, GREAT), GREAT - 1, GREAT]:
                with self.subTest(form=form, row=row):
                    self.check(form, row, chance.choice(MODULI))

    def test_great_forms(self):
        chance = random.Random(113)
        for _ in range(3):
            form = great_form(chance)
            powers = powers_of(form, 60)
            for modulus in MODULI:
                for row in [0, 1, 15, 16, 17, 18, 59]:
                    self.assertEqual(power_at(form, row, modulus), powers[row] % modulus)
                    self.assertEqual(total_at(form, row, modulus), sum(powers[:row + 1]) % modulus)
                self.check(form, chance.randint(GREAT // 2, GREAT), modulus)

    def test_about_the_end_of_the_top(self):
        for bottom in [[1], [1, 1], [1, -1], [1, 0, 0, 2]]:
            form = ([3, 0, -4, 0, 0, 0, 0, 0, 0, 0, 0, 0, 0, 0, 0, 0, 9], bottom)
            powers = powers_of(form, 30)
            for row in range(30):
                for modulus in [2, 10, 10 ** 12]:
                    self.assertEqual(power_at(form, row, modulus), powers[row] % modulus)
                    self.assertEqual(total_at(form, row, modulus), sum(powers[:row + 1]) % modulus)
        self.assertEqual(power_at(([3, 0, -4], [1]), GREAT, 100), 0)
        self.assertEqual(total_at(([3, 0, -4], [1]), GREAT, 100), 99)

    def test_known_powers(self):
        for modulus in MODULI:
            for row in [0, 1, 10 ** 18, GREAT]:
                self.assertEqual(power_at(SUM, row, modulus), 1 % modulus)
                self.assertEqual(total_at(SUM, row, modulus), (row + 1) % modulus)
                self.assertEqual(power_at(([1], [1, -7]), row, modulus), pow(7, row, modulus))
                self.assertEqual(power_at(([1], [1, 7]), row, modulus), pow(-7, row, modulus))
                self.assertEqual(power_at(([1], [1, -2, 1]), row, modulus), (row + 1) % modulus)
                self.assertEqual(power_at(([1], [1, -4, 6, -4, 1]), row, modulus), math.comb(row + 3, 3) % modulus)
                self.assertEqual(total_at(([1], [1, -4, 6, -4, 1]), row, modulus), math.comb(row + 4, 4) % modulus)
        self.assertEqual([power_at(PAIRS, 6, 10), total_at(PAIRS, 6, 10)], [3, 3])
        # the last digits of the pairs repeat behind 60 rows
        self.assertEqual(power_at(PAIRS, 60 * 10 ** 28 + 6, 10), 3)

    def test_negative_powers(self):
        self.assertEqual(power_at(([-1], [1]), 0, 10), 9)
        self.assertEqual(power_at(([-1], [1, -1]), GREAT, 10 ** 12), 10 ** 12 - 1)
        self.assertEqual(power_at(([0, 3], [1, 1]), GREAT, 10), 7)
        self.assertEqual(total_at(([-3], [1, -1]), 1, 10), 4)
        self.assertEqual(total_at(([-3], [1]), GREAT, 2), 1)

    def test_the_modulus_1_and_the_form_0(self):
        for row in [0, 1, 17, GREAT]:
            for form in [NONE, ONE, SUM, PAIRS, ([-5, 7], [1, 3])]:
                self.assertEqual([power_at(form, row, 1), total_at(form, row, 1)], [0, 0])
            for modulus in MODULI:
                self.assertEqual([power_at(NONE, row, modulus), total_at(NONE, row, modulus)], [0, 0])

    def test_by_name(self):
        self.assertEqual(power_at(modulus=10, row=6, form=PAIRS), 3)
        self.assertEqual(total_at(modulus=10, row=5, form=PAIRS), 0)

    def test_invalid_rows(self):
        for form in [SUM, NONE, PAIRS]:
            for row in [-1, -2, -GREAT]:
                for modulus in [1, 10]:
                    for call in [power_at, total_at]:
                        self.raises(InvalidNumber, row, call, form, row, modulus)
                        self.raises(InvalidNumber, row, call, modulus=modulus, row=row, form=form)

    def test_what_is_passed_stays(self):
        for form in [SUM, NONE, ([-5, 7], [1, 3])]:
            for row in [0, 1, 10 ** 9]:
                self.check_new(power_at, form, row, 10)
                self.check_new(total_at, form, row, 10)

    def test_the_tools_of_the_tests(self):
        for form in [PAIRS, ([1, 2, 3], [1, 0, -2]), ([5], product([1, -3], [1, 1]))]:
            powers = powers_of(form, 50)
            self.assertEqual([far_power(form, row, 1000) for row in range(50)], [power % 1000 for power in powers])


class CellTest(Case):
    def written_out(self, parts):
        return [number for count, number in parts for _ in range(count)]

    def random_stretches(self, chance, inputs, most):
        return [[(chance.randint(1, most), chance.choice([0, 1, -1, 9, -GREAT, chance.randint(-99, 99)]))
                 for _ in range(chance.choice([0, 1, 2, 6]))] for _ in inputs]

    def test_near_rows_against_the_cells(self):
        chance = random.Random(114)
        for inputs, columns in random_sheets(115, 60):
            sheet = Sheet(inputs, columns)
            stretches = self.random_stretches(chance, inputs, 6)
            entries = [self.written_out(parts) for parts in stretches]
            for name, _ in columns:
                cells = sheet.cells(name, entries, 45)
                for modulus in [1, 10, 10 ** 12]:
                    for row in [0, 1, 2, 5, 11, 20, 44]:
                        with self.subTest(inputs=inputs, columns=columns, name=name, stretches=stretches, row=row):
                            cell = cell_at(sheet, name, stretches, row, modulus)
                            self.assertIs(type(cell), int)
                            self.assertEqual(cell, cells[row] % modulus)

    def test_at_the_ends_of_the_stretches(self):
        sheet = Sheet("ab", [("s", [(1, "s", 1), (1, "a", 0), (100, "b", 1)]), ("t", [(1, "a", 0), (-1, "b", 0)])])
        stretches = [[(1, 5), (3, -2), (2, 0), (1, 7)], [(4, 1)]]
        entries = [self.written_out(parts) for parts in stretches]
        for name in "st":
            cells = sheet.cells(name, entries, 20)
            self.assertEqual([cell_at(sheet, name, stretches, row, 10 ** 9) for row in range(20)],
                             [cell % 10 ** 9 for cell in cells])

    def test_far_rows_against_a_matrix(self):
        chance = random.Random(116)
        for most_columns, number in [(1, 8), (2, 6), (4, 4)]:
            for inputs, columns in random_sheets(117 + most_columns, number, most_columns=most_columns):
                sheet = Sheet(inputs, columns)
                stretches = self.random_stretches(chance, inputs, chance.choice([9, GREAT // 5]))
                for row in [chance.randint(10 ** 3, 10 ** 6), chance.randint(0, GREAT), GREAT]:
                    modulus = chance.choice(MODULI)
                    name = chance.choice(columns)[0]
                    with self.subTest(inputs=inputs, columns=columns, name=name, stretches=stretches, row=row):
                        self.assertEqual(cell_at(sheet, name, stretches, row, modulus),
                                         far_cell(inputs, columns, name, stretches, row, modulus))

    def test_sums_of_far_rows(self):
        sheet = Sheet("a", SUMS)
        for modulus in MODULI:
            for parts in [[], [(1, 3)], [(10 ** 20, 2)], [(GREAT, -1)], [(7, 0), (10 ** 29, -5), (GREAT, 4), (1, GREAT)]]:
                for row in [0, 6, 7, 8, 10 ** 20 - 1, 10 ** 20, 10 ** 29 + 7, GREAT - 1, GREAT]:
                    wanted, left = 0, row + 1
                    for count, number in parts:
                        wanted += min(count, left) * number
                        left -= min(count, left)
                    self.assertEqual(cell_at(sheet, "s", [parts], row, modulus), wanted % modulus)

    def test_no_stretch(self):
        for inputs, columns in random_sheets(118, 20):
            for row in [0, 3, GREAT]:
                self.assertEqual(cell_at(Sheet(inputs, columns), columns[0][0], [[] for _ in inputs], row, 10 ** 12), 0)

    def test_a_stretch_cut_in_two(self):
        chance = random.Random(119)
        for inputs, columns in random_sheets(120, 15):
            sheet = Sheet(inputs, columns)
            count, cut, number = GREAT // 3, chance.randint(1, GREAT // 4), chance.randint(-GREAT, GREAT)
            others = self.random_stretches(chance, inputs, 10 ** 6)[1:]
            for row in [0, cut - 1, cut, count - 1, count, GREAT]:
                whole = cell_at(sheet, columns[0][0], [[(count, number), (5, 8)]] + others, row, 10 ** 9 + 7)
                parts = [(cut, number), (count - cut, number), (2, 8), (3, 8)]
                self.assertEqual(cell_at(sheet, columns[0][0], [parts] + others, row, 10 ** 9 + 7), whole)
                behind = [(cut, number), (count - cut, number), (5, 8), (GREAT, 0)]
                self.assertEqual(cell_at(sheet, columns[0][0], [behind] + others, row, 10 ** 9 + 7), whole)

    def test_each_input_by_itself(self):
        sheet = Sheet("ba", [("s", [(1, "s", 1), (1, "a", 0), (10, "b", 0)])])
        self.assertEqual(cell_at(sheet, "s", [[(10 ** 20, 1)], [(3, 1)]], GREAT, 10 ** 9), 3)
        self.assertEqual(cell_at(sheet, "s", [[(3, 1)], [(10 ** 20, 1)]], GREAT, 10 ** 9), 30)
        self.assertEqual(cell_at(modulus=10 ** 9, row=2, stretches=[[(2, 1)], [(3, 1)]], name="s", sheet=sheet), 23)

    def test_the_name_is_checked_ahead_of_the_row(self):
        sheet = Sheet("ab", [("s", [(1, "a", 0)]), ("t", [])])
        for name in ["a", "x", "", "st", "S"]:
            for row in [-1, 0, GREAT]:
                self.raises(InvalidName, name, cell_at, sheet, name, [[], [(1, 1)]], row, 10)
                self.raises(InvalidName, name, cell_at, modulus=1, row=row, stretches=[[], []], name=name, sheet=sheet)

    def test_invalid_rows(self):
        sheet = Sheet("ab", [("s", [(1, "a", 0)]), ("t", [])])
        for name in "st":
            for row in [-1, -2, -GREAT]:
                for stretches in [[[], []], [[(3, 1)], [(4, 1)]]]:
                    self.raises(InvalidNumber, row, cell_at, sheet, name, stretches, row, 10)
                    self.raises(InvalidNumber, row, cell_at, modulus=1, row=row, stretches=stretches, name=name, sheet=sheet)

    def test_what_is_passed_stays(self):
        columns = [("s", [(1, "s", 1), (1, "a", 0), (2, "b", 3)])]
        sheet, stretches = Sheet("ab", columns), [[(3, 1), (4, 0)], []]
        for row in [0, 5, GREAT]:
            cell_at(sheet, "s", stretches, row, 10)
            self.assertEqual((sheet, stretches), (Sheet("ab", columns), [[(3, 1), (4, 0)], []]))


if __name__ == "__main__":
    unittest.main()
