import itertools
import math
import random
import unittest
from fractions import Fraction

from feedcolumns.endings import fitting, last_row, resting, told_form
from feedcolumns.errors import InvalidName, InvalidNumber
from feedcolumns.forms import column_form, first_powers
from feedcolumns.sheets import Sheet
from helpers import (
    Case, common_degree, convolved, divided, divisor, formula_with, great_form, powers_of, product, random_form,
    random_sheets, solvable, started, walked)

GREAT = 10 ** 30
NONE = ([], [1])
ONE = ([1], [1])
SUM = ([1], [1, -1])
PAIRS = ([1], [1, -1, -1])
SUMS = [("s", [(1, "s", 1), (1, "a", 0)]), ("e", [(-1, "e", 1), (1, "a", 0)]), ("t", [(1, "t", 1), (1, "s", 0)])]


def sheets_with_one_input(seed, number, **most):
    """Inputs and columns of sheets with one input, so many times."""
    for inputs, columns in random_sheets(seed, 6 * number, **most):
        if inputs == "a" and number > 0:
            number -= 1
            yield columns


class LastRowTest(Case):
    def check(self, form, numbers):
        """The last row, by the cells: those behind top and input are 0 for ever if as many as the bottom has are."""
        begin = len(form[0]) + len(numbers)
        cells = convolved(powers_of(form, begin + len(form[1])), numbers, begin + len(form[1]))
        wanted = max([row for row, cell in enumerate(cells) if cell != 0], default=-1)
        if wanted >= begin:
            wanted = None
        told = last_row(form, numbers)
        self.assertEqual(told, wanted)
        self.assertIn(type(told), [int, type(None)])
        return told

    def test_multiples_of_the_bottom(self):
        chance = random.Random(91)
        for _ in range(150):
            form = random_form(chance)
            factor = [chance.randint(-9, 9) for _ in range(chance.randint(0, 6))] + [chance.choice([-2, 1, GREAT])]
            numbers = product(form[1], factor)
            for zeros in [0, 1, 5]:
                with self.subTest(form=form, factor=factor, zeros=zeros):
                    told = self.check(form, numbers + [0] * zeros)
                    self.assertEqual(told, len(form[0]) + len(factor) - 2 if form[0] else -1)

    def test_others(self):
        chance = random.Random(92)
        found = {}
        for _ in range(400):
            form = random_form(chance)
            numbers = [chance.randint(-2, 2) for _ in range(chance.randint(0, 8))]
            with self.subTest(form=form, numbers=numbers):
                told = self.check(form, numbers)
                found[told is None, told == -1] = True
                multiple = product(form[1], [3, 1])
                multiple[0] += 1
                self.check(form, multiple)
        self.assertEqual(sorted(found), [(False, False), (False, True), (True, False)])

    def test_examples(self):
        self.assertEqual(last_row(PAIRS, [1, -1, -1]), 0)
        self.assertIsNone(last_row(PAIRS, [1]))
        self.assertEqual(last_row(([0, 0, 3], [1, -1]), [2, 0, -2]), 3)
        self.assertEqual(last_row(numbers=[0, 0, 7, 0], form=ONE), 2)
        self.assertEqual(last_row(([1, 0, 1], [1]), [5]), 2)
        self.assertIsNone(last_row(([1, -1], [1, -2, 0, 1]), [1, -1]))
        # the first numbers come out, the last one does not
        self.assertIsNone(last_row(([1], [1, 2]), [1, 2, 0, 1]))
        self.assertIsNone(last_row(([1], [1, 2]), [1, 1]))

    def test_zeros_alone_and_none(self):
        for form in [ONE, SUM, PAIRS, NONE, ([0, 5], [1, 0, -2])]:
            for numbers in [[], [0], [0] * 100]:
                self.assertEqual(last_row(form, numbers), -1)

    def test_the_form_0(self):
        for numbers in [[1], [0, 0, 3], [GREAT] * 100]:
            self.assertEqual(last_row(NONE, numbers), -1)

    def test_great_and_many_numbers(self):
        chance = random.Random(93)
        top, bottom = great_form(chance)
        self.assertEqual(last_row((top, bottom), bottom), 16)
        self.assertEqual(last_row((top, bottom), product(bottom, [GREAT, -1]) + [0] * 80), 17)
        self.assertIsNone(last_row((top, bottom), bottom[:-1] + [bottom[-1] + 1]))
        self.assertIsNone(last_row((top, bottom), [chance.randint(-GREAT, GREAT) for _ in range(100)]))
        self.assertEqual(last_row(SUM, [GREAT] * 50 + [-GREAT] * 50), 98)
        self.assertIsNone(last_row(SUM, [GREAT] * 50 + [-GREAT] * 49 + [1 - GREAT]))

    def test_what_is_passed_stays(self):
        for numbers in [[1, -1, -1, 0], [1], [], [0]]:
            self.check_new(last_row, PAIRS, numbers)


class RestingTest(Case):
    def check(self, columns):
        found = resting(Sheet("a", columns))
        self.assertEqual([type(number) for number in found], [int] * len(found))
        self.assertEqual(found[0], 1)
        self.assertNotEqual(found[-1], 0)
        # a sheet within the bounds rests within its 16 rows of memory, if it rests at all
        for name, _ in columns:
            self.assertFalse(any(walked("a", columns, name, [found], len(found) + 100)[len(found) + 17:]))
        if len(found) > 1:
            cells = [started("a", columns, name, "a", 80) for name, _ in columns]
            rows = [[one[row - back] for back in range(1, len(found) - 1)] for one in cells for row in range(35, 80)]
            self.assertFalse(solvable(rows, [-one[row] for one in cells for row in range(35, 80)]))
        return len(found)

    def test_against_the_cells(self):
        lengths = {}
        for columns in sheets_with_one_input(94, 60, most_back=2, most_tuples=4):
            with self.subTest(columns=columns):
                lengths[self.check(columns)] = True
        for columns in sheets_with_one_input(95, 25):
            with self.subTest(columns=columns):
                lengths[self.check(columns)] = True
        for length in [1, 2, 3, 4, 5, 9]:
            self.assertIn(length, lengths)

    def test_columns_alone(self):
        for form in [ONE, SUM, PAIRS, ([2, 5], [1, 0, 3]), ([0, 0, 1], [1, -2, 1])]:
            self.assertEqual(resting(Sheet("a", [("s", formula_with("s", "a", form))])), form[1])
        self.assertEqual(resting(Sheet("b", [("z", [])])), [1])
        self.assertEqual(resting(Sheet("b", [("z", [(1, "z", 1)])])), [1])

    def test_common_factors_once(self):
        self.assertEqual(resting(Sheet("a", SUMS)), [1, -1, -1, 1])
        self.assertEqual(resting(sheet=Sheet("a", SUMS[:2])), [1, 0, -1])
        self.assertEqual(resting(Sheet("a", SUMS[:1] + [("u", [(1, "u", 2), (1, "a", 0)])])), [1, 0, -1])
        self.assertEqual(resting(Sheet("a", SUMS + [("u", [(5, "s", 0), (3, "a", 4)])])), [1, -1, -1, 1])

    def test_rings_over_several_rows(self):
        columns = [("s", [(1, "t", 1), (1, "a", 0)]), ("t", [(2, "u", 2), (1, "s", 0)]), ("u", [(-1, "s", 1)])]
        self.assertEqual(resting(Sheet("a", columns)), [1, -1, 0, 0, 2])
        self.check(columns)

    def test_what_one_column_takes_away_from_another_one(self):
        # d ends by itself, but s, which it is made of, has to rest as well
        columns = [("s", [(1, "s", 1), (1, "a", 0)]), ("d", [(1, "s", 0), (-1, "s", 3)])]
        self.assertEqual(resting(Sheet("a", columns)), [1, -1])
        # what goes round in p alone is never fed
        columns = [("p", [(3, "p", 1), (1, "a", 0), (-3, "a", 1)]), ("z", [(7, "z", 2)])]
        self.assertEqual(resting(Sheet("a", columns)), [1])
        columns = [("s", [(1, "s", 1), (1, "a", 0)]), ("t", [(1, "t", 1), (1, "s", 0), (-1, "s", 1)])]
        self.assertEqual(resting(Sheet("a", columns)), [1, -1])
        self.check(columns)

    def test_new_lists(self):
        for columns in [SUMS, [("z", [])], [("s", [(2, "a", 1)])]]:
            sheet = Sheet("a", columns)
            found = resting(sheet)
            wanted = list(found)
            found.append(4)
            self.assertEqual(resting(sheet), wanted)
            self.assertEqual(sheet, Sheet("a", columns))


class ToldFormTest(Case):
    def check_told(self, form, number):
        numbers = powers_of(form, number)
        self.assertEqual(told_form(numbers), form)
        self.check_is_form(told_form(numbers))

    def wanted(self, numbers):
        """The form with these first powers, by solving for a bottom of fractions, None if there is none."""
        half = len(numbers) // 2
        bottom = solution([[numbers[row - back] if row >= back else 0 for back in range(1, half + 1)]
                           for row in range(half, 2 * half)], [-number for number in numbers[half:]])
        if bottom is None:
            return None
        bottom = [Fraction(1)] + bottom
        top = convolved(numbers, bottom, half)
        return least(top, bottom)

    def test_forms(self):
        chance = random.Random(96)
        for _ in range(150):
            form = random_form(chance, 4)
            needed = 2 * max(len(form[0]), len(form[1]) - 1)
            if needed <= 24:
                for number in [needed, needed + 2, max(needed, 24)]:
                    with self.subTest(form=form, number=number):
                        self.check_told(form, number)

    def test_great_forms(self):
        chance = random.Random(97)
        for length in [1, 2, 5, 8]:
            top, bottom = great_form(chance, length + 1)
            self.check_told((top[:length], bottom), 2 * length)
            self.check_told((top[:length], bottom), 2 * length + 4)
        top, bottom = great_form(chance, 13)
        self.check_told((top[:12], bottom), 24)
        self.check_told((top[:12], [1]), 24)
        self.check_told(([3], bottom), 24)
        self.check_told((top[:3], bottom), 26)

    def test_polynomials_and_late_ones(self):
        self.check_told(([0, 0, 5], [1]), 6)
        self.check_told(([0, 0, 5], [1, 1]), 6)
        self.check_told(([0, 0, 0, 0, -1], [1, 0, 0, 0, 0, 3]), 10)
        self.assertEqual(told_form([0, 0, 5, 0, 0, 0]), ([0, 0, 5], [1]))

    def test_an_empty_list_and_zeros(self):
        self.assertEqual(told_form([]), NONE)
        for number in range(2, 26, 2):
            self.assertEqual(told_form([0] * number), NONE)
            # it would take a top that is too long
            self.assertIsNone(told_form([0] * (number - 1) + [7]))
        self.assertIsNone(told_form([0, 1]))
        self.assertIsNone(told_form([0, 0, 1, 0]))

    def test_too_few_numbers(self):
        # the bottom of two roots needs four numbers
        self.assertEqual(told_form([1, 1]), SUM)
        self.assertEqual(told_form([1, 1, 2, 3]), PAIRS)
        self.assertIsNone(told_form([1, 1, 2, 4, 8, 9]))
        self.assertEqual(told_form(numbers=[1, 2, 3, 4]), ([1], [1, -2, 1]))

    def test_fractions_are_no_forms(self):
        self.assertIsNone(told_form([2, 1]))
        self.assertIsNone(told_form([4, 2, 1, 1]))
        self.assertEqual(told_form([2, -4]), ([2], [1, 2]))

    def test_all_lists_of_two_and_of_four_small_numbers(self):
        found = {}
        for numbers in itertools.chain(itertools.product(range(-6, 7), repeat=2), itertools.product(range(-2, 3), repeat=4)):
            with self.subTest(numbers=numbers):
                wanted = self.wanted(list(numbers))
                self.assertEqual(told_form(list(numbers)), wanted)
                found[wanted is None] = True
        self.assertEqual(sorted(found), [False, True])

    def test_changed_numbers(self):
        chance = random.Random(98)
        found = {}
        for _ in range(150):
            form = random_form(chance, 2)
            numbers = powers_of(form, chance.choice([2, 4, 6, 8, 10]))
            place = chance.randrange(len(numbers))
            changed = numbers[:place] + [numbers[place] + chance.choice([-1, 1, 5])] + numbers[place + 1:]
            for other in [numbers, changed, [2 * number for number in numbers], [0] + numbers[:-1], numbers[1:] + [0]]:
                with self.subTest(numbers=other):
                    wanted = self.wanted(other)
                    self.assertEqual(told_form(other), wanted)
                    if wanted is not None:
                        self.assertEqual(powers_of(wanted, len(other)), other)
                    found[wanted is None, other == numbers] = True
        self.assertEqual(len(found), 4)

    def test_doubled_and_moved(self):
        numbers = powers_of(PAIRS, 8)
        self.assertEqual(told_form([2 * number for number in numbers]), ([2], [1, -1, -1]))
        self.assertEqual(told_form([0] + numbers[:-1]), ([0, 1], [1, -1, -1]))
        self.assertEqual(told_form(numbers[1:] + [34]), ([1, 1], [1, -1, -1]))
        self.assertIsNone(told_form(numbers[:7] + [22]))

    def test_great_numbers(self):
        chance = random.Random(99)
        self.assertIsNone(told_form([chance.randint(-GREAT, GREAT) for _ in range(24)]))
        self.assertEqual(told_form([GREAT, GREAT ** 2]), ([GREAT], [1, -GREAT]))

    def test_new_lists(self):
        for numbers in [[], [0, 0], [1, 2, 3, 4], [0, 1], [5, 0]]:
            self.check_new(told_form, numbers)


def solution(rows, wanted):
    """Some fractions, one for each place of a row, that make the rows come to what is wanted, None if none do."""
    rows = [[Fraction(x) for x in row] + [Fraction(y)] for row, y in zip(rows, wanted)]
    places = len(rows[0]) - 1
    leads = []
    for place in range(places):
        lead = next((row for row in rows[len(leads):] if row[place] != 0), None)
        if lead is not None:
            rest = [row for row in rows if row is not lead]
            lead = [x / lead[place] for x in lead]
            rest = [[x - row[place] * y for x, y in zip(row, lead)] for row in rest]
            rows = rest[:len(leads)] + [lead] + rest[len(leads):]
            leads.append(place)
    if any(row[-1] != 0 for row in rows[len(leads):]):
        return None
    return [rows[leads.index(place)][-1] if place in leads else Fraction(0) for place in range(places)]


def least(top, bottom):
    """The form that is a fraction of polynomials of fractions, the bottom beginning with 1, None if there is none."""
    first, second = list(top), list(bottom)
    for numbers in [first, second]:
        while numbers and numbers[-1] == 0:
            numbers.pop()
    if not first:
        return NONE
    common = divisor(first, second, Fraction(0))
    # it divides the bottom, so it begins with a number that is not 0
    common = [number / common[0] for number in common]
    found = divided(first, common), divided(second, common)
    if any(number.denominator != 1 for numbers in found for number in numbers):
        return None
    return [int(number) for number in found[0]], [int(number) for number in found[1]]


class FittingTest(Case):
    def changed(self, columns, name, place, number):
        return [(other, [(number, *part[1:]) if other == name and at == place else part
                         for at, part in enumerate(formula)]) for other, formula in columns]

    def form_with(self, columns, name, place, number):
        return column_form(Sheet("a", self.changed(columns, name, place, number)), name, "a")

    def check(self, columns, name, place, numbers):
        sheet = Sheet("a", columns)
        forms = [self.form_with(columns, name, place, number) for number in numbers]
        if all(form == forms[0] for form in forms):
            self.assertEqual(fitting(sheet, name, place, forms[0]), "all")
            self.assertIsNone(fitting(sheet, name, place, added_one(forms[0])))
            return "all"
        for number, form in zip(numbers, forms):
            told = fitting(sheet, name, place, form)
            self.assertEqual(told, number)
            self.assertIs(type(told), int)
        return "one"

    def test_each_place_of_a_formula(self):
        chance = random.Random(101)
        found = {}
        for columns in sheets_with_one_input(102, 60):
            for name, formula in columns:
                for place in range(len(formula)):
                    numbers = [0, formula[place][0], chance.randint(-9, 9), chance.choice([GREAT, -GREAT])]
                    with self.subTest(columns=columns, name=name, place=place):
                        kind = self.check(columns, name, place, numbers)
                        other = formula[place][1]
                        found[kind, "input" if other == "a" else "itself" if other == name else "column"] = True
        # what is taken from the input always makes a difference
        self.assertEqual(sorted(found), [("all", "column"), ("all", "itself"),
                                         ("one", "column"), ("one", "input"), ("one", "itself")])

    def test_0_is_as_if_the_tuple_were_left_out(self):
        for columns in sheets_with_one_input(103, 40, most_tuples=4):
            for name, formula in columns:
                for place in range(len(formula)):
                    left = [(other, known[:place] + known[place + 1:] if other == name else known)
                            for other, known in columns]
                    form = column_form(Sheet("a", left), name, "a")
                    with self.subTest(columns=columns, name=name, place=place):
                        self.assertIn(fitting(Sheet("a", columns), name, place, form), [0, "all"])

    def test_any_wishes(self):
        chance = random.Random(104)
        found = {}
        for columns in sheets_with_one_input(105, 150, most_columns=2, most_back=1, most_tuples=3):
            sheet = Sheet("a", columns)
            for name, formula in columns:
                for place in range(len(formula)):
                    wish = random_form(chance, 1)
                    told = fitting(sheet, name, place, wish)
                    fits = [number for number in range(-12, 13) if self.form_with(columns, name, place, number) == wish]
                    with self.subTest(columns=columns, name=name, place=place, wish=wish):
                        if told is None:
                            self.assertEqual(fits, [])
                        elif told == "all":
                            self.assertEqual(fits, list(range(-12, 13)))
                        else:
                            self.assertEqual(self.form_with(columns, name, place, told), wish)
                            self.assertEqual(fits, [told] if -12 <= told <= 12 else [])
                    found[told is None] = True
        self.assertEqual(sorted(found), [False, True])

    def test_examples(self):
        sheet = Sheet("a", SUMS)
        self.assertEqual(fitting(sheet, "s", 0, ([1], [1, 2])), -2)
        self.assertEqual(fitting(sheet, "s", 1, ([3], [1, -1])), 3)
        self.assertIsNone(fitting(sheet, "s", 1, ([1], [1, 1])))
        self.assertEqual(fitting(form=([1], [1, 0, -1]), place=0, name="t", sheet=sheet), -1)
        self.assertEqual(fitting(sheet, "t", 1, ([-4], [1, -2, 1])), -4)

    def test_no_integer(self):
        sheet = Sheet("a", [("d", [(2, "a", 0)]), ("s", [(1, "d", 0), (3, "d", 0)]), ("t", [(1, "t", 1), (2, "a", 0)])])
        self.assertEqual(fitting(sheet, "s", 0, ([4], [1])), -1)
        self.assertIsNone(fitting(sheet, "s", 0, ([5], [1])))
        self.assertIsNone(fitting(sheet, "t", 0, ([4], [1, -2])))
        self.assertEqual(fitting(sheet, "t", 0, ([2], [1, -2])), 2)

    def test_numbers_that_would_have_to_differ(self):
        # the first number would have to be 2, and the second one 3
        sheet = Sheet("a", [("d", [(1, "a", 0), (1, "a", 1)]), ("s", [(1, "d", 0)])])
        self.assertIsNone(fitting(sheet, "s", 0, ([2, 3], [1])))
        self.assertIsNone(fitting(sheet, "s", 0, ([2, 2, 2], [1])))
        self.assertIsNone(fitting(sheet, "s", 0, ([0, 2], [1])))
        self.assertEqual(fitting(sheet, "s", 0, ([2, 2], [1])), 2)

    def test_the_form_0_as_the_wish(self):
        sheet = Sheet("a", [("s", [(1, "s", 1), (5, "a", 0)]), ("t", [(2, "a", 1), (3, "a", 1)]),
                            ("u", [(1, "u", 1), (4, "z", 0), (9, "u", 2)]), ("z", [])])
        self.assertEqual(fitting(sheet, "s", 1, NONE), 0)
        self.assertIsNone(fitting(sheet, "s", 0, NONE))
        self.assertEqual(fitting(sheet, "t", 0, NONE), -3)
        self.assertEqual(fitting(sheet, "t", 1, NONE), -2)
        for place in range(3):
            self.assertEqual(fitting(sheet, "u", place, NONE), "all")
            self.assertIsNone(fitting(sheet, "u", place, SUM))

    def test_great_numbers(self):
        sheet = Sheet("a", SUMS)
        for number in [GREAT, -GREAT, 10 ** 29 + 7]:
            self.assertEqual(fitting(sheet, "s", 0, ([1], [1, -number])), number)
            self.assertEqual(fitting(sheet, "s", 1, ([number], [1, -1])), number)
        self.assertIsNone(fitting(sheet, "s", 0, great_form(random.Random(106))))

    def test_columns_that_refer_to_one_another(self):
        columns = [("s", [(1, "t", 1), (1, "a", 0)]), ("t", [(2, "u", 2), (1, "s", 0)]), ("u", [(-1, "s", 1)])]
        self.check(columns, "s", 0, [0, 1, -7, GREAT])
        self.check(columns, "t", 0, [0, 2, 5, -GREAT])
        self.check(columns, "t", 1, [0, 1, 8])
        self.check(columns, "u", 0, [0, -1, 3])
        # the column goes round to itself by this tuple alone
        self.assertEqual(fitting(Sheet("a", columns), "u", 0, NONE), 0)

    def test_a_name_and_a_back_twice(self):
        sheet = Sheet("a", [("s", [(4, "s", 1), (-3, "s", 1), (1, "a", 0), (1, "a", 0)])])
        self.assertEqual(fitting(sheet, "s", 0, ([2], [1, -1])), 4)
        self.assertEqual(fitting(sheet, "s", 1, ([2], [1, -1])), -3)
        self.assertEqual(fitting(sheet, "s", 3, ([9], [1, -1])), 8)

    def test_the_name_is_checked_ahead_of_the_place(self):
        sheet = Sheet("a", SUMS + [("z", [])])
        for name in ["a", "x", "", "st", "S"]:
            for place in [-1, 0, 7]:
                self.raises(InvalidName, name, fitting, sheet, name, place, SUM)
                self.raises(InvalidName, name, fitting, form=SUM, place=place, name=name, sheet=sheet)

    def test_invalid_places(self):
        sheet = Sheet("a", SUMS + [("z", [])])
        for name, places in [("s", [-1, -2, -3, 2, 3, GREAT, -GREAT]), ("z", [0, -1, 1])]:
            for place in places:
                for form in [SUM, NONE]:
                    self.raises(InvalidNumber, place, fitting, sheet, name, place, form)
                    self.raises(InvalidNumber, place, fitting, form=form, place=place, name=name, sheet=sheet)

    def test_what_is_passed_stays(self):
        sheet = Sheet("a", SUMS)
        for place in [0, 1]:
            form = ([1], [1, 2])
            fitting(sheet, "s", place, form)
            self.assertEqual((sheet, form), (Sheet("a", SUMS), ([1], [1, 2])))


def added_one(form):
    """The form of the sum with a column that is the input."""
    top, bottom = form
    width = max(len(top), len(bottom))
    numbers = [one + other for one, other in zip(top + [0] * (width - len(top)), bottom + [0] * (width - len(bottom)))]
    while numbers and numbers[-1] == 0:
        numbers.pop()
    return (numbers, bottom) if numbers else NONE


class ToolsTest(Case):
    def test_what_the_tests_work_with(self):
        self.assertEqual(least([Fraction(2), Fraction(2)], [Fraction(1), Fraction(3), Fraction(2)]), ([2], [1, 2]))
        self.assertIsNone(least([Fraction(1)], [Fraction(1), Fraction(1, 2)]))
        self.assertEqual(common_degree([1, 3, 2], [2, 2]), 1)
        self.assertEqual(math.prod(solution([[2, 0], [0, 3]], [4, 9])), 6)
        self.assertEqual(first_powers(PAIRS, 20), powers_of(PAIRS, 20))


if __name__ == "__main__":
    unittest.main()
