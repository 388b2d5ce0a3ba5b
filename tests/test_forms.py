import copy
import random
import unittest

from feedcolumns.errors import InvalidForm, InvalidName, InvalidNumber
from feedcolumns.forms import column_form, first_powers, reduced, shortest_formula
from feedcolumns.sheets import Sheet
from helpers import Case, common_degree, product, random_sheets, solvable, started, walked

ROWS = 30


class FormTest(Case):
    def check_behind_a_single_1(self, inputs, columns):
        sheet = Sheet(inputs, columns)
        for name, _ in columns:
            for source in inputs:
                with self.subTest(inputs=inputs, columns=columns, name=name, source=source):
                    form = column_form(sheet, name, source)
                    self.check_is_form(form)
                    self.assertEqual(first_powers(form, ROWS), started(inputs, columns, name, source, ROWS))


class ColumnFormTest(FormTest):
    def test_against_the_cells(self):
        for inputs, columns in random_sheets(3, 120):
            self.check_behind_a_single_1(inputs, columns)

    def test_somewhat_beyond_the_bounds(self):
        for inputs, columns in random_sheets(4, 5, most_back=12, most_tuples=9):
            self.check_behind_a_single_1(inputs, columns)
        columns = [(name, [(9, other, 4) for other in "stuv"] + [(1, "a", k)]) for k, name in enumerate("stuv")]
        self.check_behind_a_single_1("a", columns)

    def test_rings_over_several_rows(self):
        columns = [("s", [(1, "t", 1), (1, "a", 0)]), ("t", [(2, "u", 2), (1, "s", 0)]), ("u", [(-1, "s", 1)])]
        sheet = Sheet("a", columns)
        self.assertEqual(column_form(sheet, "s", "a"), ([1], [1, -1, 0, 0, 2]))
        self.assertEqual(column_form(sheet, "t", "a"), ([1, 0, 0, -2], [1, -1, 0, 0, 2]))
        self.assertEqual(column_form(sheet, "u", "a"), ([0, -1], [1, -1, 0, 0, 2]))

    def test_cells_that_cancel(self):
        columns = [("s", [(1, "s", 1), (1, "a", 0)]), ("d", [(1, "s", 0), (-1, "s", 3)]),
                   ("n", [(1, "s", 0), (-1, "s", 0)]), ("p", [(2, "p", 1), (1, "s", 0), (-2, "s", 1)])]
        sheet = Sheet("a", columns)
        self.assertEqual(column_form(sheet, "d", "a"), ([1, 1, 1], [1]))
        self.assertEqual(column_form(sheet, "n", "a"), ([], [1]))
        self.assertEqual(column_form(sheet, "p", "a"), ([1], [1, -1]))
        self.check_behind_a_single_1("a", columns)

    def test_inputs_that_cancel(self):
        self.check_behind_a_single_1("a", [("n", [(1, "a", 0), (-1, "a", 0)])])
        self.check_behind_a_single_1("a", [("n", [(1, "a", 1), (2, "a", 0), (-1, "a", 1)])])
        self.assertEqual(column_form(Sheet("a", [("n", [(1, "a", 3), (-1, "a", 3)])]), "n", "a"), ([], [1]))

    def test_the_form_0(self):
        sheet = Sheet("ab", [("z", []), ("s", [(3, "s", 1), (1, "z", 0), (1, "b", 2)]), ("l", [(1, "l", 1)])])
        self.assertEqual(column_form(sheet, "z", "a"), ([], [1]))
        self.assertEqual(column_form(sheet, "s", "a"), ([], [1]))
        self.assertEqual(column_form(sheet, "l", "b"), ([], [1]))
        self.assertEqual(column_form(sheet, "s", "b"), ([0, 0, 1], [1, -3]))

    def test_alone_with_integer_factors(self):
        sheet = Sheet("a", [("s", [(2, "s", 1), (4, "a", 0), (-6, "a", 1)])])
        self.assertEqual(column_form(sheet, "s", "a"), ([4, -6], [1, -2]))

    def test_each_input_by_itself(self):
        sheet = Sheet("cab", [("s", [(1, "c", 0), (2, "a", 1), (3, "b", 2), (1, "s", 1)])])
        self.assertEqual(column_form(sheet, "s", "c"), ([1], [1, -1]))
        self.assertEqual(column_form(sheet, "s", "a"), ([0, 2], [1, -1]))
        self.assertEqual(column_form(sheet, name="s", source="b"), ([0, 0, 3], [1, -1]))

    def test_errors_the_name_ahead_of_the_source(self):
        sheet = Sheet("ab", [("s", []), ("t", [])])
        self.raises(InvalidName, "x", column_form, sheet, "x", "y")
        self.raises(InvalidName, "a", column_form, sheet, "a", "s")
        for source in ["s", "x", "", "ab", "A"]:
            self.raises(InvalidName, source, column_form, sheet, "s", source)
            self.raises(InvalidName, source, column_form, sheet=sheet, name="t", source=source)

    def test_new_each_time(self):
        sheet = Sheet("a", [("s", [(1, "a", 0)]), ("z", [])])
        for name in "sz":
            form = column_form(sheet, name, "a")
            form[0].append(5)
            form[1].append(5)
            self.assertNotEqual(column_form(sheet, name, "a"), form)


class ReducedTest(FormTest):
    def test_common_factors(self):
        for top, bottom, form in [
                ([1, 0, -1], [1, -1], ([1, 1], [1])), ([1], [1], ([1], [1])), ([2], [2], ([1], [1])),
                ([-1], [-1], ([1], [1])), ([1], [-1], ([-1], [1])), ([6], [-2], ([-3], [1])),
                ([2, 2], [2, 4], ([1, 1], [1, 2])), ([4], [2, -4], ([2], [1, -2])), ([4], [-2, 4], ([-2], [1, -2])),
                ([0, 1], [0, 1], ([1], [1])), ([0, 0, 3], [0, 1], ([0, 3], [1])),
                ([0, -1, 1], [0, -1, 2], ([1, -1], [1, -2])), ([1, -1], [-1, 1], ([-1], [1])),
                ([6, 5, 1], [2, 1], ([3, 1], [1])), ([2, 1], [4, 4, 1], None), ([6, 3], [2, 1], ([3], [1])),
                ([2, 3], [2, 5, 3], ([1], [1, 1])), ([1, 2, 1], [1, 3, 3, 1], ([1], [1, 1])),
                ([2, 3, 1], [2, 1], ([1, 1], [1])), ([1, 1], [1, 2], ([1, 1], [1, 2]))]:
            with self.subTest(top=top, bottom=bottom):
                if form is None:
                    self.raises(InvalidForm, (top, bottom), reduced, top, bottom)
                else:
                    self.assertEqual(reduced(top, bottom), form)
                    self.check_is_form(reduced(top=top, bottom=bottom))

    def test_a_top_of_nothing(self):
        for bottom in [[1], [-1], [2], [0, 1], [3, 6], [0, -2, 4]]:
            self.assertEqual(reduced([], bottom), ([], [1]))

    def test_no_form(self):
        for top, bottom in [([], []), ([1], []), ([1], [2]), ([1], [0, 1]), ([0, 1], [0, 0, 1]), ([1], [2, 1]),
                            ([1], [2, 4]), ([3], [2]), ([1, 1], [2, 2, 2]), ([1, 2], [0, 1, 2]), ([2, 1], [2]),
                            ([2], [4, 2]), ([-5], [-3, 1]), ([10 ** 30], [10 ** 30 - 1])]:
            with self.subTest(top=top, bottom=bottom):
                before = copy.deepcopy((top, bottom))
                self.raises(InvalidForm, before, reduced, top, bottom)
                self.raises(InvalidForm, before, reduced, bottom=bottom, top=top)
                self.assertEqual((top, bottom), before)

    def test_random_factors_come_out(self):
        chance = random.Random(9)

        def numbers(first, most):
            return first + [chance.randint(-9, 9) for _ in range(chance.randint(0, most))] + [chance.choice([-7, 1, 5])]

        for _ in range(200):
            top, bottom = numbers([], 5), numbers([1], 4)
            if common_degree(top, bottom) > 0:
                continue
            common = [chance.choice([-6, -1, 1, 10 ** 12]) * number for number in numbers([], 4)]
            with self.subTest(top=top, bottom=bottom, common=common):
                self.assertEqual(reduced(product(top, common), product(bottom, common)), (top, bottom))

    def test_long_polynomials_of_great_integers(self):
        chance = random.Random(10)
        common = [chance.randint(-10 ** 15, 10 ** 15) for _ in range(8)] + [1]
        top = [chance.randint(-10 ** 14, 10 ** 14) for _ in range(8)] + [1]
        bottom = [1] + [chance.randint(-10 ** 14, 10 ** 14) for _ in range(7)] + [1]
        self.assertEqual(reduced(product(top, common), product(bottom, common)), (top, bottom))

    def test_arguments_are_unchanged_and_not_kept(self):
        top, bottom = [1, 1], [1, -2]
        form = reduced(top, bottom)
        form[0].append(1)
        form[1].append(1)
        self.assertEqual((top, bottom), ([1, 1], [1, -2]))
        for bottom in [[], [2]]:
            top, before = [1, 1], list(bottom)
            with self.assertRaises(InvalidForm) as told:
                reduced(top, bottom)
            top.append(3)
            bottom.append(3)
            self.assertEqual(told.exception.value, ([1, 1], before))


class FirstPowersTest(FormTest):
    def test_numbers(self):
        pairs = ([1], [1, -1, -1])
        self.assertEqual(first_powers(pairs, 0), [])
        self.assertEqual(first_powers(pairs, 1), [1])
        self.assertEqual(first_powers(pairs, 7), [1, 1, 2, 3, 5, 8, 13])
        self.assertEqual(first_powers(form=pairs, number=100)[99], 354224848179261915075)
        self.assertEqual(pairs, ([1], [1, -1, -1]))

    def test_forms(self):
        self.assertEqual(first_powers(([], [1]), 3), [0, 0, 0])
        self.assertEqual(first_powers(([1, 2, 3], [1]), 2), [1, 2])
        self.assertEqual(first_powers(([1, 2, 3], [1]), 5), [1, 2, 3, 0, 0])
        self.assertEqual(first_powers(([0, 0, 5], [1, 1]), 6), [0, 0, 5, -5, 5, -5])
        self.assertEqual(first_powers(([10 ** 30], [1, 0, 0, -2]), 7), [10 ** 30, 0, 0, 2 * 10 ** 30, 0, 0, 4 * 10 ** 30])

    def test_the_product_with_the_bottom_is_the_top(self):
        chance = random.Random(11)
        for _ in range(50):
            top = [chance.randint(-9, 9) for _ in range(chance.randint(0, 6))] + [3]
            bottom = [1] + [chance.randint(-9, 9) for _ in range(chance.randint(0, 6))] + [-2]
            powers = first_powers((top, bottom), 20)
            self.assertEqual((product(powers, bottom) + [0] * 20)[:20], (top + [0] * 20)[:20])

    def test_new_each_time(self):
        form = ([1, 2], [1])
        first_powers(form, 2).append(7)
        self.assertEqual(first_powers(form, 3), [1, 2, 0])
        self.assertEqual(form, ([1, 2], [1]))

    def test_invalid_number(self):
        for number in [-1, -100, -10 ** 30]:
            self.raises(InvalidNumber, number, first_powers, ([1], [1, -1]), number)
            self.raises(InvalidNumber, number, first_powers, form=([], [1]), number=number)


class ShortestFormulaTest(FormTest):
    def check_is_alike(self, inputs, columns, name, formula):
        chance = random.Random(12)
        entries = [[chance.randint(-99, 99) for _ in range(ROWS)] for _ in inputs]
        self.assertEqual(walked(inputs, [(name, formula)], name, entries, ROWS),
                         walked(inputs, columns, name, entries, ROWS))
        for source in inputs:
            self.assertEqual(started(inputs, [(name, formula)], name, source, ROWS),
                             started(inputs, columns, name, source, ROWS))

    def check_is_in_sequence(self, inputs, name, formula):
        places = [((name + inputs).index(other), back) for _, other, back in formula]
        self.assertEqual(places, sorted(places))
        self.assertEqual(len(places), len(set(places)))
        self.assertTrue(all(coefficient != 0 for coefficient, _, _ in formula))
        self.assertTrue(all(back >= 1 for _, other, back in formula if other == name))

    def check_is_shortest(self, inputs, columns, name, formula):
        """No formula, not even one of fractions, has fewer rows back, however many elsewhere."""
        cells = {source: started(inputs, columns, name, source, 4 * ROWS) for source in inputs}
        itself = max([back for _, other, back in formula if other == name], default=0)
        late = range(2 * ROWS, 4 * ROWS)
        if itself:
            rows = [[cells[source][row - back] for back in range(1, itself)] for source in inputs for row in late]
            self.assertFalse(solvable(rows, [cells[source][row] for source in inputs for row in late]))
        for source in inputs:
            far = max([back for _, other, back in formula if other == source], default=-1)
            if far < 0:
                continue
            rows = [[cells[other][row - back] if row >= back else 0 for back in range(1, itself + 4)]
                    for other in inputs for row in range(far if other == source else 2 * ROWS, 3 * ROWS)]
            wanted = [cells[other][row]
                      for other in inputs for row in range(far if other == source else 2 * ROWS, 3 * ROWS)]
            self.assertFalse(solvable(rows, wanted))

    def test_against_the_cells(self):
        for inputs, columns in random_sheets(6, 60, most_columns=3, most_back=2, most_tuples=4):
            for name, _ in columns:
                with self.subTest(inputs=inputs, columns=columns, name=name):
                    formula = shortest_formula(Sheet(inputs, columns), name)
                    self.check_is_in_sequence(inputs, name, formula)
                    self.check_is_alike(inputs, columns, name, formula)
                    self.check_is_shortest(inputs, columns, name, formula)
                    # the only one: so it is that of the sheet that it makes
                    self.assertEqual(shortest_formula(Sheet(inputs, [(name, formula)]), name), formula)

    def test_large_ones(self):
        for inputs, columns in random_sheets(7, 40):
            for name, _ in columns:
                with self.subTest(inputs=inputs, columns=columns, name=name):
                    formula = shortest_formula(Sheet(inputs, columns), name)
                    self.check_is_in_sequence(inputs, name, formula)
                    self.check_is_alike(inputs, columns, name, formula)
                    self.assertEqual(shortest_formula(Sheet(inputs, [(name, formula)]), name), formula)

    def test_bottoms_with_a_common_factor(self):
        columns = [("s", [(1, "s", 1), (1, "a", 0)]), ("e", [(1, "e", 2), (1, "b", 0)]), ("x", [(1, "s", 0), (1, "e", 0)])]
        sheet = Sheet("ab", columns)
        self.assertEqual(shortest_formula(sheet, "x"), [(1, "x", 2), (1, "a", 0), (1, "a", 1), (1, "b", 0)])
        self.check_is_shortest("ab", columns, "x", shortest_formula(sheet, "x"))

    def test_bottoms_without_a_common_factor(self):
        sheet = Sheet("ba", [("s", [(1, "s", 1), (1, "a", 0)]), ("e", [(-1, "e", 1), (2, "b", 3)]),
                             ("x", [(1, "s", 0), (1, "e", 0)])])
        self.assertEqual(shortest_formula(sheet, "x"),
                         [(1, "x", 2), (2, "b", 3), (-2, "b", 4), (1, "a", 0), (1, "a", 1)])

    def test_what_cancels_is_left_out(self):
        sheet = Sheet("ab", [("z", [(1, "z", 1)]), ("n", [(1, "b", 0), (-1, "b", 0), (2, "a", 3), (3, "a", 3)]),
                             ("m", [(1, "m", 1), (1, "a", 0), (-1, "a", 1)])])
        self.assertEqual(shortest_formula(sheet, "z"), [])
        self.assertEqual(shortest_formula(sheet, "n"), [(5, "a", 3)])
        self.assertEqual(shortest_formula(sheet=sheet, name="m"), [(1, "a", 0)])

    def test_invalid_name(self):
        sheet = Sheet("ab", [("s", []), ("t", [])])
        for name in ["a", "x", "", "st", "S"]:
            self.raises(InvalidName, name, shortest_formula, sheet, name)

    def test_the_sheet_is_unchanged(self):
        columns = [("s", [(1, "s", 1), (1, "a", 0)]), ("t", [(1, "t", 1), (1, "s", 0)])]
        sheet = Sheet("a", columns)
        column_form(sheet, "t", "a")
        shortest_formula(sheet, "t").clear()
        self.assertEqual(sheet, Sheet("a", [("s", [(1, "s", 1), (1, "a", 0)]), ("t", [(1, "t", 1), (1, "s", 0)])]))
        self.assertEqual(shortest_formula(sheet, "t"), [(2, "t", 1), (-1, "t", 2), (1, "a", 0)])


if __name__ == "__main__":
    unittest.main()
