import copy
import random
import unittest
from unittest import mock

from feedcolumns.errors import Circular, InvalidFormula, InvalidName, InvalidNumber
from feedcolumns.sheets import Sheet
from helpers import Case, random_sheets, shortest_ring, walked

SUMS = [("s", [(1, "s", 1), (1, "a", 0)]), ("d", [(1, "s", 0), (-1, "s", 3)])]


class SheetTest(Case):
    def test_what_was_passed_is_returned_in_its_sequence(self):
        formula = [(2, "s", 1), (1, "b", 0), (2, "s", 1), (-9, "z", 4), (3, "z", 2)]
        sheet = Sheet("cba", [("z", []), ("s", formula), ("m", [(1, "c", 0)])])
        self.assertEqual(sheet.inputs, "cba")
        self.assertEqual(sheet.names, ["z", "s", "m"])
        self.assertEqual(sheet.formula_of("z"), [])
        self.assertEqual(sheet.formula_of("s"), formula)
        self.assertEqual(sheet.formula_of(name="m"), [(1, "c", 0)])
        self.assertIs(type(sheet.names), list)
        self.assertIs(type(sheet.formula_of("s")), list)
        self.assertIs(type(sheet.formula_of("s")[0]), tuple)

    def test_a_sheet_never_changes(self):
        formula = [(1, "s", 1), (1, "a", 0)]
        columns = [("s", formula), ("t", [])]
        sheet = Sheet("a", columns)
        same = Sheet("a", [("s", [(1, "s", 1), (1, "a", 0)]), ("t", [])])
        formula.append((5, "t", 0))
        formula[0] = (7, "a", 3)
        columns.append(("u", []))
        columns[1] = ("v", [])
        sheet.names.append("x")
        sheet.formula_of("s").clear()
        sheet.cells("s", [[1]], 3).clear()
        self.assertEqual(sheet, same)
        self.assertEqual(sheet.names, ["s", "t"])
        self.assertEqual(sheet.formula_of("s"), [(1, "s", 1), (1, "a", 0)])
        self.assertEqual(sheet.cells("s", [[1, 2, 3]], 5), [1, 3, 6, 6, 6])

    def test_properties_are_not_assigned(self):
        sheet = Sheet("a", SUMS)
        for name in ["inputs", "names"]:
            with self.assertRaises(AttributeError):
                setattr(sheet, name, "b")
            self.assertIsInstance(vars(Sheet)[name], property)

    def test_arguments_are_unchanged(self):
        columns = copy.deepcopy(SUMS)
        entries = [[1, 2, 3]]
        sheet = Sheet("a", columns)
        cells = sheet.cells("d", entries, 7)
        sheet.cells("s", entries, 2)
        self.assertEqual(columns, SUMS)
        self.assertEqual(entries, [[1, 2, 3]])
        entries[0].append(4)
        self.assertEqual(cells, [1, 3, 6, 5, 3, 0, 0])

    def test_equality(self):
        sheet = Sheet("ab", [("s", [(1, "a", 0), (1, "b", 0)]), ("t", [])])
        self.assertTrue(sheet == Sheet("ab", [("s", [(1, "a", 0), (1, "b", 0)]), ("t", [])]))
        self.assertFalse(sheet != Sheet("ab", [("s", [(1, "a", 0), (1, "b", 0)]), ("t", [])]))
        others = [
            Sheet("ba", [("s", [(1, "a", 0), (1, "b", 0)]), ("t", [])]),
            Sheet("abc", [("s", [(1, "a", 0), (1, "b", 0)]), ("t", [])]),
            Sheet("ab", [("s", [(1, "b", 0), (1, "a", 0)]), ("t", [])]),
            Sheet("ab", [("t", []), ("s", [(1, "a", 0), (1, "b", 0)])]),
            Sheet("ab", [("s", [(1, "a", 0), (1, "b", 0)]), ("u", [])]),
            Sheet("ab", [("s", [(1, "a", 0), (1, "b", 0)])]),
            Sheet("ab", [("s", [(1, "a", 0), (1, "b", 1)]), ("t", [])]),
            Sheet("ab", [("s", [(2, "a", 0), (1, "b", 0)]), ("t", [])]),
            "ab", None, 0, [], ("ab", [("s", [(1, "a", 0), (1, "b", 0)]), ("t", [])]), mock.ANY,
        ]
        for other in others:
            with self.subTest(other=other):
                self.assertFalse(sheet == other)
                self.assertTrue(sheet != other)

    def test_invalid_names(self):
        for name in ["", "A", "ab", "1", " ", "_", "\u00e9", "{", "`", "a\n", "\u0430"]:
            with self.subTest(name=name):
                self.raises(InvalidName, name, Sheet, "c", [("s", []), (name, [])])
        for inputs, name in [("A", "A"), ("a1", "1"), ("a ", " "), ("\u00e9", "\u00e9"), ("a{", "{")]:
            with self.subTest(inputs=inputs):
                self.raises(InvalidName, name, Sheet, inputs, [("s", [])])

    def test_repeated_names(self):
        self.raises(InvalidName, "a", Sheet, "aba", [("s", [])])
        self.raises(InvalidName, "s", Sheet, "a", [("s", []), ("t", []), ("s", [])])
        self.raises(InvalidName, "a", Sheet, "a", [("s", []), ("a", [])])

    def test_the_first_wrong_name_the_inputs_first(self):
        self.raises(InvalidName, "B", Sheet, "aB", [("S", []), ("a", [])])
        self.raises(InvalidName, "a", Sheet, "aaC", [("S", [])])
        self.raises(InvalidName, "a", Sheet, "a", [("a", []), ("T", [])])
        self.raises(InvalidName, "T", Sheet, "a", [("T", []), ("a", [])])
        self.raises(InvalidName, "S", Sheet, inputs="a", columns=[("s", []), ("S", []), ("s", [])])

    def test_invalid_formula(self):
        for other in ["b", "", "as", "S", "aa"]:
            with self.subTest(other=other):
                self.raises(InvalidFormula, "s", Sheet, "a", [("s", [(1, "a", 0), (1, other, 1)])])
        self.raises(InvalidFormula, "t", Sheet, "ab", [("s", [(1, "t", 1)]), ("t", [(1, "ab", 0)])])
        self.raises(InvalidFormula, "t", Sheet, "a", [("s", []), ("t", [(1, "x", 1)]), ("u", [(1, "y", 1)])])

    def test_names_are_checked_ahead_of_formulas_and_these_ahead_of_rings(self):
        self.raises(InvalidName, "T", Sheet, "a", [("s", [(1, "x", 0)]), ("T", [])])
        self.raises(InvalidName, "s", Sheet, "a", [("s", [(1, "s", 0)]), ("s", [])])
        self.raises(InvalidFormula, "t", Sheet, "a", [("s", [(1, "s", 0)]), ("t", [(1, "x", 0)])])

    def test_rings(self):
        self.raises(Circular, "s", Sheet, "a", [("s", [(1, "a", 0), (-1, "s", 0)])])
        self.raises(Circular, "st", Sheet, "a", [("t", [(1, "s", 0)]), ("s", [(1, "t", 0)])])
        self.raises(Circular, "svt", Sheet, "a", [("t", [(1, "s", 0)]), ("v", [(1, "t", 0)]), ("s", [(1, "v", 0)])])
        # it refers to itself, even if what it refers to cancels
        self.raises(Circular, "s", Sheet, "a", [("s", [(1, "s", 0), (-1, "s", 0)])])

    def test_the_shortest_ring_is_told_ahead_of_the_first_string(self):
        self.raises(Circular, "uv", Sheet, "a", [
            ("r", [(1, "s", 0)]), ("s", [(1, "t", 0)]), ("t", [(1, "r", 0)]), ("u", [(1, "v", 0)]), ("v", [(1, "u", 0)])])
        self.raises(Circular, "v", Sheet, "a", [("r", [(1, "s", 0)]), ("s", [(1, "r", 0)]), ("v", [(1, "v", 0)])])
        self.raises(Circular, "rt", Sheet, "a", [
            ("u", [(1, "s", 0)]), ("s", [(1, "u", 0)]), ("t", [(1, "r", 0)]), ("r", [(1, "u", 0), (1, "t", 0)])])
        self.raises(Circular, "rsu", Sheet, "a", [
            ("r", [(1, "t", 0), (1, "s", 0)]), ("s", [(1, "u", 0)]), ("t", [(1, "u", 0)]), ("u", [(1, "r", 0)])])

    def test_no_ring_over_several_rows(self):
        sheet = Sheet("a", [("s", [(1, "t", 0), (1, "s", 1)]), ("t", [(1, "s", 1), (1, "u", 0)]), ("u", [(1, "s", 2)])])
        self.assertEqual(sheet.names, ["s", "t", "u"])

    def test_rings_against_all_strings(self):
        chance = random.Random(5)
        found = {}
        for _ in range(1500):
            names = list("rstuvw"[:chance.randint(1, 6)])
            chance.shuffle(names)
            columns = [
                (name, [(1, chance.choice(names + ["a"]), chance.choice([0, 0, 1]))
                        for _ in range(chance.randint(0, 3))])
                for name in names]
            ring = shortest_ring(columns)
            found[len(ring or "")] = True
            with self.subTest(columns=columns):
                if ring is None:
                    self.assertEqual(Sheet("a", columns).names, names)
                else:
                    self.raises(Circular, ring, Sheet, "a", columns)
        self.assertEqual(sorted(found), [0, 1, 2, 3, 4])

    def test_cells_against_a_walk(self):
        chance = random.Random(2)
        for inputs, columns in random_sheets(1, 150):
            sheet = Sheet(inputs, columns)
            entries = [[chance.randint(-9, 9) for _ in range(chance.randint(0, 12))] for _ in inputs]
            for name, _ in columns:
                number = chance.randint(0, 15)
                with self.subTest(inputs=inputs, columns=columns, name=name):
                    self.assertEqual(
                        sheet.cells(name, entries, number), walked(inputs, columns, name, entries, number))

    def test_cells_of_a_formula_with_a_name_and_a_back_twice(self):
        sheet = Sheet("a", [("s", [(2, "a", 1), (3, "a", 1), (1, "s", 2), (1, "s", 2)])])
        self.assertEqual(sheet.cells("s", [[1, 0, 1]], 6), [0, 5, 0, 15, 0, 30])

    def test_cells_of_inputs_longer_than_the_rows_and_of_none(self):
        sheet = Sheet("ab", [("s", [(1, "s", 1), (1, "a", 0), (10, "b", 0)]), ("z", [])])
        self.assertEqual(sheet.cells("s", [[1, 2, 3, 4, 5], [1]], 3), [11, 13, 16])
        self.assertEqual(sheet.cells("s", [[], []], 3), [0, 0, 0])
        self.assertEqual(sheet.cells("s", [[1], []], 0), [])
        self.assertEqual(sheet.cells("z", [[1], [2]], 2), [0, 0])
        self.assertEqual(len(sheet.cells("s", [[1], [1]], 100)), 100)

    def test_nothing_above_row_0(self):
        sheet = Sheet("a", [("s", [(1, "a", 2), (1, "s", 4)])])
        self.assertEqual(sheet.cells("s", [[1, 2, 3, 4]], 4), [0, 0, 1, 2])

    def test_cells_beside_in_any_sequence(self):
        sheet = Sheet("a", [("x", [(1, "y", 0)]), ("y", [(2, "z", 0)]), ("z", [(3, "a", 0)])])
        self.assertEqual(sheet.cells("x", [[1, 1]], 3), [6, 6, 0])

    def test_cells_of_great_integers(self):
        great = 10 ** 30
        sheet = Sheet("a", [("s", [(9, "s", 1), (-9, "a", 0)])])
        self.assertEqual(sheet.cells("s", [[great, -great, 1]], 4),
                         [-9 * great, -72 * great, -648 * great - 9, -5832 * great - 81])
        self.assertEqual(sheet.cells("s", [[great]], 100)[99], -9 ** 100 * great)

    def test_cells_by_name(self):
        sheet = Sheet(inputs="a", columns=SUMS)
        self.assertEqual(sheet.cells(number=4, entries=[[1, 1]], name="s"), [1, 2, 2, 2])

    def test_errors_of_cells_and_formula_of(self):
        sheet = Sheet("ab", [("s", []), ("t", [])])
        for name in ["a", "b", "x", "", "st", "S"]:
            with self.subTest(name=name):
                self.raises(InvalidName, name, sheet.cells, name, [[], []], 3)
                self.raises(InvalidName, name, sheet.cells, name=name, entries=[[], []], number=-1)
                self.raises(InvalidName, name, sheet.formula_of, name)
        self.raises(InvalidNumber, -1, sheet.cells, "s", [[], []], -1)
        self.raises(InvalidNumber, -10 ** 30, sheet.cells, "t", [[1], []], -10 ** 30)

    def test_methods_stand_in_the_class(self):
        for name in ["inputs", "names", "formula_of", "cells", "__init__", "__eq__"]:
            self.assertIn(name, vars(Sheet))


if __name__ == "__main__":
    unittest.main()
