import copy
import math
import random
import unittest
from fractions import Fraction

from feedcolumns.errors import InvalidForm
from feedcolumns.forms import column_form
from feedcolumns.reading import delay_of, read_back, reader
from feedcolumns.sheets import Sheet
from helpers import Case, convolved, great_form, powers_of, random_form

ROWS = 60
GREAT = 10 ** 30


def first_number(form):
    return next(number for number in form[0] if number != 0)


class DelayTest(Case):
    def test_no_one_and_several_zeros(self):
        for zeros in [0, 1, 2, 5, 16]:
            for number in [1, -1, 2, -7, GREAT]:
                for rest in [[], [0, 3], [1, 0, -1]]:
                    for bottom in [[1], [1, -1, -1], [1, 0, 4]]:
                        self.assertEqual(delay_of(([0] * zeros + [number] + rest, bottom)), zeros)

    def test_the_form_0(self):
        self.assertIsNone(delay_of(([], [1])))
        self.assertIsNone(delay_of(column_form(Sheet("a", [("z", [(1, "z", 1)])]), "z", "a")))

    def test_by_name(self):
        self.assertEqual(delay_of(form=([0, 2], [1])), 1)
        self.assertEqual(delay_of(form=([0, 0, 0, -1], [1, 1])), 3)


class ReaderTest(Case):
    def check(self, form):
        """The powers of the reader and of the form, put behind one another, are a single 1, late by the delay."""
        found = reader(form)
        if not form[0] or first_number(form) not in (1, -1):
            self.assertIsNone(found)
            return False
        self.check_is_form(found)
        single = [0] * ROWS
        single[delay_of(form)] = 1
        self.assertEqual(convolved(powers_of(form, ROWS), powers_of(found, ROWS), ROWS), single)
        return True

    def test_tops_with_zeros_and_any_numbers(self):
        for zeros in [0, 1, 2, 7]:
            for number in [1, -1, 2, -2, 9, -GREAT]:
                for rest in [[], [2], [0, 0, 5], [-3, 1]]:
                    for bottom in [[1], [1, 7], [1, 0, -4, 4]]:
                        form = ([0] * zeros + [number] + rest, bottom)
                        with self.subTest(form=form):
                            self.assertIs(self.check(form), abs(number) == 1)

    def test_the_sign(self):
        self.assertEqual(reader(([1, 2], [1])), ([1], [1, 2]))
        self.assertEqual(reader(([-1, 2], [1, 3])), ([-1, -3], [1, -2]))
        self.assertEqual(reader(([0, 0, -1], [1, 1])), ([-1, -1], [1]))
        self.assertEqual(reader(([0, 0, 1], [1, 1])), ([1, 1], [1]))
        self.assertEqual(reader(form=([-1], [1])), ([-1], [1]))

    def test_random_forms(self):
        chance = random.Random(61)
        found = {}
        for _ in range(300):
            form = random_form(chance)
            with self.subTest(form=form):
                found[self.check(form)] = True
        self.assertEqual(sorted(found), [False, True])

    def test_no_reader_with_any_delay(self):
        # 1 / (2 + x) has no powers that are integers, however late
        self.assertIsNone(reader(([2, 1], [1, -1])))
        self.assertIsNone(reader(([0, 2], [1])))
        self.assertIsNone(reader(([2], [1, 2])))
        self.assertIsNone(reader(([-2, 2], [1, 2])))

    def test_the_form_0(self):
        self.assertIsNone(reader(([], [1])))
        self.assertIs(self.check(([], [1])), False)

    def test_great_numbers(self):
        top, bottom = great_form(random.Random(62))
        self.assertIs(self.check(([0, 0, -1] + top[3:], bottom)), True)

    def test_against_the_cells_of_a_sheet(self):
        sheet = Sheet("a", [("s", [(1, "s", 1), (2, "s", 3), (-1, "a", 1), (4, "a", 2)])])
        form = column_form(sheet, "s", "a")
        top, bottom = reader(form)
        entries = [4, 0, -3, 7, 7, 1, 0, 12]
        cells = sheet.cells("s", [entries], 20)
        told = convolved(powers_of((top, bottom), 20), cells, 20)
        self.assertEqual(told, [0] + entries + [0] * 11)

    def test_new_lists(self):
        for form in [([1, 2], [1]), ([0, -1, 4], [1, 1]), ([1], [1]), ([0, 2], [1]), ([], [1])]:
            self.check_new(reader, form)
            self.check_new(delay_of, form)


class ReadBackTest(Case):
    def check(self, form, shown):
        """The fractions of the input make the cells that are shown, cell by cell."""
        told = read_back(form, shown)
        delay = delay_of(form)
        if any(shown[:delay]):
            self.assertIsNone(told)
            return None
        self.assertIs(type(told), list)
        self.assertEqual(len(told), max(0, len(shown) - delay))
        for part in told:
            self.assertEqual([type(part)] + [type(number) for number in part], [tuple, int, int])
            self.assertGreaterEqual(part[1], 1)
            self.assertEqual(math.gcd(*part), 1)
        fed = [Fraction(*part) for part in told]
        self.assertEqual(convolved(powers_of(form, len(shown)), fed, len(shown)), shown)
        return told

    def test_cells_of_integers(self):
        chance = random.Random(63)
        for _ in range(150):
            form = random_form(chance)
            if not form[0]:
                continue
            fed = [chance.choice([0, 1, -5, GREAT, chance.randint(-99, 99)]) for _ in range(chance.randint(0, 15))]
            shown = convolved(powers_of(form, 30), fed, chance.randint(0, 25))
            with self.subTest(form=form, shown=shown):
                told = self.check(form, shown)
                self.assertEqual(told, [(number, 1) for number in (fed + [0] * 30)[:len(told)]])

    def test_cells_of_fractions(self):
        chance = random.Random(64)
        denominators = {}
        for _ in range(150):
            form = random_form(chance)
            if not form[0]:
                continue
            shown = [0] * delay_of(form) + [chance.randint(-20, 20) for _ in range(chance.randint(0, 12))]
            with self.subTest(form=form, shown=shown):
                for numerator, denominator in self.check(form, shown):
                    denominators[denominator, numerator > 0] = True
        for denominator in [1, 2, 3, 4, 5, 6]:
            self.assertIn((denominator, True), denominators)
            self.assertIn((denominator, False), denominators)

    def test_in_lowest_terms(self):
        self.assertEqual(read_back(([0, 2], [1]), [0, 3, 4, 0, -2, -3]), [(3, 2), (2, 1), (0, 1), (-1, 1), (-3, 2)])
        self.assertEqual(read_back(([-2], [1]), [3, 4, 0, -2, -3]), [(-3, 2), (-2, 1), (0, 1), (1, 1), (3, 2)])
        self.assertEqual(read_back(([-6, 3], [1]), [4, 0, 0]), [(-2, 3), (-1, 3), (-1, 6)])
        self.assertEqual(read_back(form=([3, 1], [1, 1]), shown=[1, 0]), [(1, 3), (2, 9)])

    def test_fewer_cells_than_the_delay_and_none(self):
        form = ([0, 0, 0, 5, 1], [1, -1])
        for number in range(4):
            self.assertEqual(read_back(form, [0] * number), [])
        self.assertEqual(read_back(form, [0] * 4), [(0, 1)])
        self.assertEqual(read_back(form, [0, 0, 0, 1]), [(1, 5)])
        self.assertEqual(read_back(([2], [1]), []), [])

    def test_cells_that_no_input_makes(self):
        form = ([0, 0, 0, 5, 1], [1, -1])
        for shown in [[1], [0, 2], [0, 0, -1], [0, 0, GREAT, 0], [0, 1, 0, 5], [3, 0, 0, 0, 0, 0]]:
            self.assertIsNone(read_back(form, shown))
        self.assertIsNone(read_back(([0, 2], [1]), [1, 3]))

    def test_great_numbers(self):
        chance = random.Random(65)
        form = great_form(chance)
        self.check(form, [chance.randint(-GREAT, GREAT) for _ in range(100)])
        self.check(([0] * 5 + form[0][5:], form[1]), [0] * 5 + [GREAT] * 30)

    def test_many_cells(self):
        self.assertEqual(read_back(([1], [1, -1]), [1] * 100), [(1, 1)] + [(0, 1)] * 99)
        self.assertEqual(read_back(([2, -1], [1]), [1] + [0] * 99)[99], (1, 2 ** 100))

    def test_the_form_0(self):
        for shown in [[], [0], [0, 0, 0], [1], [0, GREAT]]:
            self.raises(InvalidForm, ([], [1]), read_back, ([], [1]), shown)
            self.raises(InvalidForm, ([], [1]), read_back, shown=shown, form=([], [1]))

    def test_new_lists(self):
        for form, shown in [(([0, 2], [1]), [0, 3, 4]), (([0, 2], [1]), [1, 3]), (([3, 1], [1, 1]), []),
                            (([1], [1]), [4, 0, 0])]:
            self.check_new(read_back, form, shown)
        form, shown = ([], [1]), [0, 1]
        before = copy.deepcopy((form, shown))
        with self.assertRaises(InvalidForm) as told:
            read_back(form, shown)
        self.assertEqual((form, shown), before)
        form[0].append(1)
        self.assertEqual(told.exception.value, ([], [1]))


if __name__ == "__main__":
    unittest.main()
