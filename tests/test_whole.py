import copy
import random
import unittest

from feedcolumns.alike import are_alike, classes, parting, relations
from feedcolumns.endings import fitting, resting, told_form
from feedcolumns.far import cell_at, power_at, total_at
from feedcolumns.forms import column_form, first_powers, reduced, shortest_formula
from feedcolumns.growth import circles, growth_of, rest_of
from feedcolumns.joins import behind, beside, led_back, loop_for, multiple, stepped
from feedcolumns.memory import bound, felt, reaching
from feedcolumns.reading import delay_of, read_back, reader
from feedcolumns.readings import read_form, read_sheet
from feedcolumns.sheets import Sheet
from feedcolumns.texts import show_form, show_sheet
from helpers import Case, formula_with, product, random_form, random_sheets, spoil, started

# the letters take the places of others, also of one another's
LETTERS = dict(zip("abcstuv", "taszbym"))


def with_other_letters(columns):
    return [(LETTERS[name], [(number, LETTERS[other], back) for number, other, back in formula])
            for name, formula in columns]


def asked(sheet):
    """What the program tells of a sheet."""
    told = [show_sheet(sheet), classes(sheet), relations(sheet), sheet.names, sheet.inputs]
    if len(sheet.inputs) == 1:
        told.append(resting(sheet))
    for name in sheet.names:
        entries = [[1, -2, 3] for _ in sheet.inputs]
        told += [sheet.formula_of(name), sheet.cells(name, entries, 9), shortest_formula(sheet, name),
                 felt(sheet, name), bound(sheet, name, 3), reaching(sheet, name, 3),
                 cell_at(sheet, name, [[(5, 2), (7, -1)] for _ in sheet.inputs], 10 ** 20, 10 ** 9)]
        for other in sheet.names:
            told += [are_alike(sheet, name, sheet, other), parting(sheet, name, sheet, other)]
        for source in sheet.inputs:
            form = column_form(sheet, name, source)
            told += [form, asked_of_form(form)]
        if len(sheet.inputs) == 1:
            form = column_form(sheet, name, sheet.inputs)
            told += [fitting(sheet, name, place, form) for place in range(len(sheet.formula_of(name)))]
    return told


def asked_of_form(form):
    """What the program tells of a form."""
    told = [first_powers(form, 5), reduced(*form), growth_of(form), circles(form), rest_of(form), delay_of(form),
            reader(form), behind(form, form), beside(form, form), multiple(form, -2), led_back(form, 3),
            loop_for(form, form), stepped(form, 2, 1), power_at(form, 77, 100), total_at(form, 77, 100), show_form(form),
            read_form(show_form(form))]
    if form[0]:
        told.append(read_back(form, first_powers(form, 6)))
    return told


def spread(numbers, step):
    """A polynomial with a power of x in the place of x."""
    found = [0] * (step * (len(numbers) - 1) + 1)
    found[::step] = numbers
    return found


class OtherLettersTest(Case):
    def test_the_same_of_a_sheet_with_other_letters(self):
        for inputs, columns in random_sheets(151, 60):
            others = "".join(LETTERS[name] for name in inputs)
            sheet, other = Sheet(inputs, columns), Sheet(others, with_other_letters(columns))
            with self.subTest(inputs=inputs, columns=columns):
                self.assertEqual(relations(other), relations(sheet))
                self.assertEqual(classes(other), sorted(
                    sorted(LETTERS[name] for name in group) for group in classes(sheet)))
                for name, _ in columns:
                    for source in inputs:
                        self.assertEqual(column_form(other, LETTERS[name], LETTERS[source]), column_form(sheet, name, source))
                    self.assertEqual(with_other_letters([(name, shortest_formula(sheet, name))]),
                                     [(LETTERS[name], shortest_formula(other, LETTERS[name]))])
                    self.assertEqual(felt(other, LETTERS[name]), felt(sheet, name))
                    self.assertEqual(bound(other, LETTERS[name], 7), bound(sheet, name, 7))
                    self.assertEqual(reaching(other, LETTERS[name], 7), reaching(sheet, name, 7))
                    for second, _ in columns:
                        told = parting(sheet, name, sheet, second)
                        wanted = told and (told[0], LETTERS[told[1]], told[2])
                        self.assertEqual(parting(other, LETTERS[name], other, LETTERS[second]), wanted)
                    stretches = [[(10 ** 9, 3), (4, -1)] for _ in inputs]
                    self.assertEqual(cell_at(other, LETTERS[name], stretches, 10 ** 25, 10 ** 9),
                                     cell_at(sheet, name, stretches, 10 ** 25, 10 ** 9))
                if len(inputs) == 1:
                    self.assertEqual(resting(other), resting(sheet))

    def test_the_same_of_a_sheet_with_its_columns_in_another_sequence(self):
        chance = random.Random(152)
        for inputs, columns in random_sheets(153, 60):
            places = list(range(len(columns)))
            chance.shuffle(places)
            sheet, other = Sheet(inputs, columns), Sheet(inputs, [columns[place] for place in places])
            with self.subTest(inputs=inputs, columns=columns, places=places):
                self.assertEqual(classes(other), classes(sheet))
                for name, _ in columns:
                    for source in inputs:
                        form = column_form(other, name, source)
                        self.assertEqual(form, column_form(sheet, name, source))
                        self.assertEqual(growth_of(form), growth_of(column_form(sheet, name, source)))
                    self.assertEqual(shortest_formula(other, name), shortest_formula(sheet, name))
                    self.assertEqual(felt(other, name), felt(sheet, name))
                    self.assertEqual(reaching(other, name, 4), reaching(sheet, name, 4))
                    self.assertIs(are_alike(sheet, name, other, name), True)
                    for second, _ in columns:
                        self.assertEqual(parting(other, name, sheet, second), parting(sheet, name, sheet, second))
                self.assertEqual(len(relations(other)), len(relations(sheet)))
                for row in relations(other):
                    for source in inputs:
                        cells = [started(inputs, columns, columns[place][0], source, 40) for place in places]
                        self.assertFalse(any(sum(number * cell for number, cell in zip(row, beside)) for beside in zip(*cells)))
                if len(inputs) == 1:
                    self.assertEqual(resting(other), resting(sheet))

    def test_inputs_in_another_sequence(self):
        for inputs, columns in random_sheets(154, 40):
            turned = inputs[::-1]
            sheet, other = Sheet(inputs, columns), Sheet(turned, columns)
            for name, _ in columns:
                self.assertEqual([column_form(other, name, source) for source in inputs],
                                 [column_form(sheet, name, source) for source in inputs])
                self.assertEqual(felt(other, name), felt(sheet, name)[::-1])
                self.assertEqual(sorted(shortest_formula(other, name)), sorted(shortest_formula(sheet, name)))


class AskedAgainTest(Case):
    def test_one_sheet_again_and_again_and_a_new_one(self):
        for inputs, columns in random_sheets(155, 40, most_back=2):
            sheet = Sheet(inputs, columns)
            told = asked(sheet)
            wanted = copy.deepcopy(told)
            with self.subTest(inputs=inputs, columns=columns):
                for _ in range(2):
                    spoil(told)
                    told = asked(sheet)
                    self.assertEqual(told, wanted)
                self.assertEqual(asked(Sheet(inputs, copy.deepcopy(columns))), wanted)
                self.assertEqual(asked(read_sheet(show_sheet(sheet))), wanted)
                self.assertEqual(sheet, Sheet(inputs, columns))

    def test_one_form_again_and_again(self):
        chance = random.Random(156)
        for _ in range(60):
            form = random_form(chance)
            before = copy.deepcopy(form)
            told = asked_of_form(form)
            wanted = copy.deepcopy(told)
            spoil(told)
            self.assertEqual(form, before)
            self.assertEqual(asked_of_form(form), wanted)
            self.assertEqual(asked_of_form(read_form(show_form(form))), wanted)


class TogetherTest(Case):
    """What one function returns is passed on to others."""

    def test_what_is_read_by_the_reader_is_the_input(self):
        chance = random.Random(157)
        for _ in range(60):
            form = random_form(chance)
            found = reader(form)
            if found is not None:
                late = ([0] * delay_of(form) + [1], [1])
                self.assertEqual(behind(form, found), late)
                self.assertEqual(behind(found, form), late)

    def test_a_loop_that_is_taken_away_again(self):
        chance = random.Random(158)
        for _ in range(60):
            form, loop = random_form(chance, 2), random_form(chance, 2)
            if form[0]:
                wish = column_form(Sheet("a", [
                    ("f", formula_with("f", "i", form)), ("i", [(1, "a", 0), (1, "l", 1)]),
                    ("l", formula_with("l", "f", loop))]), "f", "a")
                self.assertEqual(loop_for(form, wish), behind(loop, ([0, 1], [1])))

    def test_sections_put_together_again(self):
        chance = random.Random(159)
        for _ in range(40):
            form, step = random_form(chance), chance.randint(1, 6)
            total = ([], [1])
            for begin in range(step):
                top, bottom = stepped(form, step, begin)
                total = beside(total, (product([0] * begin + [1], spread(top, step)), spread(bottom, step)))
            self.assertEqual(total, form)

    def test_forms_told_back(self):
        for inputs, columns in random_sheets(160, 60, most_columns=2, most_back=3):
            for name, _ in columns:
                for source in inputs:
                    form = column_form(Sheet(inputs, columns), name, source)
                    self.assertEqual(told_form(first_powers(form, 24)), form)

    def test_resting_ends_each_column(self):
        for inputs, columns in random_sheets(161, 60):
            if len(inputs) == 1:
                sheet = Sheet(inputs, columns)
                rest = resting(sheet)
                for name in sheet.names:
                    top, bottom = behind((rest, [1]), column_form(sheet, name, inputs))
                    self.assertEqual(bottom, [1])
                    stretches = [[(1, number) for number in rest]]
                    self.assertEqual(cell_at(sheet, name, stretches, 10 ** 30, 10 ** 12), 0)


if __name__ == "__main__":
    unittest.main()
