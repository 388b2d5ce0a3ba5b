import itertools
import math
import unittest

from feedcolumns.alike import are_alike, classes, parting, relations
from feedcolumns.errors import InvalidName, UnlikeInputs
from feedcolumns.forms import shortest_formula
from feedcolumns.sheets import Sheet
from helpers import Case, random_sheets, rank, started

# two forms of a degree of at most 16 that agree in so many rows agree in all
ROWS = 40
SUMS = [("s", [(1, "s", 1), (1, "a", 0)]), ("d", [(1, "s", 0), (-1, "s", 3)]),
        ("e", [(-1, "e", 1), (1, "a", 0)]), ("r", [(1, "s", 0), (1, "e", 0)])]
LATE = [("s", [(1, "a", 4)]), ("t", [(1, "s", 4)]), ("u", [(1, "t", 4)]), ("v", [(1, "u", 4), (1, "a", 0)])]


def first_parting(inputs, columns, name, other_columns, other_name):
    """What parting tells, by the cells behind each single 1."""
    found = []
    for place, source in enumerate(inputs):
        cells = started(inputs, columns, name, source, ROWS)
        others = started(inputs, other_columns, other_name, source, ROWS)
        found += [(row, place, cells[row] - others[row]) for row in range(ROWS) if cells[row] != others[row]][:1]
    if not found:
        return None
    row, place, difference = min(found)
    return row, inputs[place], difference


class PairTest(Case):
    def check(self, inputs, columns, name, other_columns, other_name):
        with self.subTest(inputs=inputs, columns=columns, name=name, others=other_columns, other=other_name):
            wanted = first_parting(inputs, columns, name, other_columns, other_name)
            sheet, other_sheet = Sheet(inputs, columns), Sheet(inputs, other_columns)
            self.assertEqual(parting(sheet, name, other_sheet, other_name), wanted)
            self.assertIs(are_alike(sheet, name, other_sheet, other_name), wanted is None)
            return wanted

    def test_pairs_of_one_sheet(self):
        found = {}
        for inputs, columns in random_sheets(31, 150, most_back=1, most_tuples=2):
            for (name, _), (other_name, _) in itertools.product(columns, columns):
                wanted = self.check(inputs, columns, name, columns, other_name)
                found[name == other_name, wanted is None] = True
        self.assertEqual(sorted(found), [(False, False), (False, True), (True, True)])

    def test_pairs_of_two_sheets(self):
        found = {}
        before = {}
        for inputs, columns in random_sheets(32, 300, most_columns=2, most_back=2, most_tuples=3):
            other_columns = before.get(inputs, columns)
            before[inputs] = columns
            for (name, _), (other_name, _) in itertools.product(columns, other_columns):
                wanted = self.check(inputs, columns, name, other_columns, other_name)
                found[inputs, wanted and wanted[1]] = True
        self.assertEqual(sorted(found, key=str), sorted([
            ("a", "a"), ("a", None), ("ab", "a"), ("ab", "b"), ("ab", None), ("abc", "a"), ("abc", "b"),
            ("abc", "c"), ("abc", None)], key=str))

    def test_large_sheets(self):
        before = {}
        for inputs, columns in random_sheets(33, 30):
            other_columns = before.get(inputs, columns)
            before[inputs] = columns
            self.check(inputs, columns, columns[0][0], other_columns, other_columns[-1][0])

    def test_made_alike_by_another_formula(self):
        for inputs, columns in random_sheets(34, 40):
            sheet = Sheet(inputs, columns)
            for name, _ in columns:
                formula = [(number, "z" if other == name else other, back)
                           for number, other, back in shortest_formula(sheet, name)]
                self.assertIsNone(self.check(inputs, columns, name, [("y", []), ("z", formula)], "z"))
                changed = formula + [(1, inputs[-1], 4)]
                self.assertEqual(self.check(inputs, [("z", changed)], "z", columns, name), (4, inputs[-1], 1))

    def test_a_column_with_itself(self):
        sheet = Sheet("a", SUMS)
        for name in sheet.names:
            self.assertIs(are_alike(sheet, name, sheet, name), True)
            self.assertIsNone(parting(sheet, name, sheet, name))
            self.assertIs(are_alike(sheet, name, Sheet("a", list(reversed(SUMS))), name), True)

    def test_parted_in_row_0(self):
        sheet = Sheet("a", [("s", [(3, "a", 0)]), ("t", [(-5, "a", 0), (1, "t", 1)])])
        self.assertEqual(parting(sheet, "s", sheet, "t"), (0, "a", 8))
        self.assertEqual(parting(sheet, "t", sheet, "s"), (0, "a", -8))
        self.assertIs(are_alike(sheet, "s", sheet, "t"), False)

    def test_parted_late(self):
        sheet = Sheet("a", LATE + [("x", [(1, "v", 0), (7, "v", 4)]), ("w", [(1, "a", 0), (7, "a", 4)])])
        self.assertEqual(parting(sheet, "v", Sheet("a", [("z", [(1, "a", 0)])]), "z"), (16, "a", 1))
        self.assertEqual(parting(sheet, "x", sheet, "w"), (16, "a", 1))
        self.assertEqual(parting(sheet, "w", sheet, "x"), (16, "a", -1))
        self.assertIs(are_alike(sheet, "w", sheet, "x"), False)
        loops = [("s", [(1, "s", 1), (1, "a", 0)]), ("t", [(1, "t", 1), (1, "a", 0), (9, "u", 4)]),
                 ("u", [(1, "v", 4)]), ("v", [(1, "t", 4)])]
        self.assertEqual(self.check("a", loops, "t", loops, "s"), (12, "a", 9))

    def test_parted_at_one_input_alone(self):
        sheet = Sheet("abc", [
            ("s", [(1, "s", 1), (1, "a", 0), (1, "b", 0), (1, "c", 0)]),
            ("t", [(1, "s", 0), (4, "b", 2)]), ("u", [(1, "s", 0), (-4, "c", 3)])])
        self.assertEqual(parting(sheet, "t", sheet, "s"), (2, "b", 4))
        self.assertEqual(parting(sheet, "u", sheet, "s"), (3, "c", -4))
        self.assertEqual(parting(sheet, "u", sheet, "t"), (2, "b", -4))
        for name, other in ["ts", "us", "ut"]:
            self.assertIs(are_alike(sheet, name, sheet, other), False)

    def test_the_least_row_ahead_of_the_first_input(self):
        sheet = Sheet("ba", [("s", []), ("t", [(2, "b", 3), (5, "a", 1)]), ("u", [(2, "a", 3), (5, "b", 3)])])
        self.assertEqual(parting(sheet, "t", sheet, "s"), (1, "a", 5))
        self.assertEqual(parting(sheet, "u", sheet, "s"), (3, "b", 5))
        self.assertEqual(parting(sheet, "s", sheet, "u"), (3, "b", -5))

    def test_great_differences(self):
        columns = [("s", [(9, "a", 0)] * 6), ("t", [(9, "s", 0)] * 6), ("u", [(9, "t", 0)] * 6), ("v", [(9, "u", 3)] * 6)]
        self.assertEqual(self.check("a", columns, "v", [("z", [])], "z"), (3, "a", 54 ** 4))

    def test_kinds_of_values(self):
        sheet = Sheet("a", SUMS)
        self.assertIs(type(parting(sheet, "s", sheet, "d")), tuple)
        self.assertEqual([type(part) for part in parting(sheet, "s", sheet, "d")], [int, str, int])

    def test_by_position_and_by_name(self):
        sheet, other = Sheet("a", SUMS), Sheet("a", LATE)
        self.assertEqual(parting(other_name="s", other_sheet=other, name="s", sheet=sheet), (0, "a", 1))
        self.assertIs(are_alike(other_name="s", other_sheet=other, name="s", sheet=sheet), False)
        self.assertIs(are_alike(sheet, "s", other_sheet=sheet, other_name="s"), True)

    def test_unlike_inputs(self):
        for inputs, others in [("ab", "ba"), ("a", "ab"), ("ab", "a"), ("a", "b"), ("abc", "acb")]:
            sheet, other = Sheet(inputs, [("s", []), ("t", [])]), Sheet(others, [("s", []), ("u", [])])
            # ahead of the names, whether they are columns or not
            for name, other_name in ["su", "us", "xu", "sx", "xy"]:
                for call in [are_alike, parting]:
                    with self.subTest(inputs=inputs, others=others, name=name, other_name=other_name, call=call):
                        self.raises(UnlikeInputs, (inputs, others), call, sheet, name, other, other_name)
                        self.raises(UnlikeInputs, (others, inputs), call, name=name, other_name=other_name,
                                    other_sheet=sheet, sheet=other)

    def test_invalid_names(self):
        sheet, other = Sheet("ab", [("s", []), ("t", [])]), Sheet("ab", [("s", []), ("u", [])])
        for call in [are_alike, parting]:
            for name, other_name, wrong in [
                    ("x", "y", "x"), ("u", "t", "u"), ("s", "t", "t"), ("u", "s", "u"), ("a", "s", "a"),
                    ("s", "b", "b"), ("", "u", ""), ("st", "u", "st"), ("t", "su", "su"), ("S", "", "S")]:
                with self.subTest(call=call, name=name, other_name=other_name):
                    self.raises(InvalidName, wrong, call, sheet, name, other, other_name)
                    self.raises(InvalidName, wrong, call, other_sheet=other, other_name=other_name, name=name, sheet=sheet)
            self.raises(InvalidName, "x", call, sheet, "s", sheet, "x")

    def test_the_sheets_are_unchanged(self):
        sheet, other = Sheet("a", SUMS), Sheet("a", LATE)
        for _ in range(2):
            self.assertIs(are_alike(sheet, "s", other, "v"), False)
            self.assertEqual(parting(sheet, "s", other, "v"), (1, "a", 1))
            self.assertEqual(classes(sheet), [["d"], ["e"], ["r"], ["s"]])
            self.assertEqual(relations(sheet), [[1, 0, 1, -1]])
            self.assertEqual((sheet, other), (Sheet("a", SUMS), Sheet("a", LATE)))


class ClassesTest(Case):
    def test_against_the_cells(self):
        sizes = {}
        for inputs, columns in random_sheets(35, 250, most_back=1, most_tuples=2):
            groups = {}
            for name in sorted(name for name, _ in columns):
                cells = tuple(tuple(started(inputs, columns, name, source, ROWS)) for source in inputs)
                groups.setdefault(cells, []).append(name)
            wanted = sorted(groups.values())
            sizes[tuple(sorted(len(group) for group in wanted))] = True
            with self.subTest(inputs=inputs, columns=columns):
                self.assertEqual(classes(Sheet(inputs, columns)), wanted)
        for size in [(1,), (2,), (3,), (1, 1, 1, 1), (1, 1, 2)]:
            self.assertIn(size, sizes)

    def test_one_column(self):
        self.assertEqual(classes(Sheet("ab", [("s", [(1, "a", 0)])])), [["s"]])
        self.assertEqual(classes(Sheet("ab", [("z", [])])), [["z"]])

    def test_all_alike(self):
        columns = [("t", [(1, "t", 1), (1, "a", 0)]), ("v", [(1, "s", 0)]), ("u", [(1, "t", 0)]),
                   ("s", [(2, "s", 1), (-1, "s", 2), (1, "a", 0), (-1, "a", 1)])]
        self.assertEqual(classes(Sheet("a", columns)), [["s", "t", "u", "v"]])

    def test_ordered_by_the_first_names(self):
        columns = [("z", [(1, "a", 0)]), ("y", [(2, "a", 0)]), ("m", [(1, "a", 0)]), ("b", [(2, "a", 0)])]
        self.assertEqual(classes(Sheet("a", columns)), [["b", "y"], ["m", "z"]])
        columns = [("d", [(1, "a", 0)]), ("c", []), ("e", []), ("f", [(1, "d", 0)])]
        self.assertEqual(classes(Sheet("a", columns)), [["c", "e"], ["d", "f"]])
        self.assertEqual(classes(sheet=Sheet("a", list(reversed(columns)))), [["c", "e"], ["d", "f"]])

    def test_alike_for_one_input_alone_is_not_enough(self):
        columns = [("s", [(1, "a", 0), (1, "b", 0)]), ("t", [(1, "a", 0), (2, "b", 0)]), ("u", [(1, "b", 0), (1, "a", 0)])]
        self.assertEqual(classes(Sheet("ab", columns)), [["s", "u"], ["t"]])
        self.assertEqual(classes(Sheet("abc", columns)), [["s", "u"], ["t"]])

    def test_new_lists_each_time(self):
        sheet = Sheet("a", [("s", []), ("t", []), ("u", [(1, "a", 0)])])
        found = classes(sheet)
        found[0].clear()
        found.append(found[1])
        found[1].append("x")
        self.assertEqual(classes(sheet), [["s", "t"], ["u"]])
        self.assertEqual(sheet.names, ["s", "t", "u"])


class RelationsTest(Case):
    def check_in_steps(self, rows):
        places = []
        for at, row in enumerate(rows):
            place = min(place for place, number in enumerate(row) if number != 0)
            self.assertGreater(row[place], 0)
            for above in rows[:at]:
                self.assertTrue(0 <= above[place] < row[place])
            places.append(place)
        self.assertEqual(places, sorted(set(places)))

    def check_all_are_sums(self, rows):
        """The rows reach all that fractions of them reach: their greatest minors have no common factor."""
        factor = 0
        for places in itertools.combinations(range(len(rows[0])), len(rows)):
            minor = 0
            for chosen in itertools.permutations(range(len(rows))):
                swaps = sum(one > other for one, other in itertools.combinations(chosen, 2))
                minor += (-1) ** swaps * math.prod(rows[k][places[at]] for k, at in enumerate(chosen))
            factor = math.gcd(factor, minor)
        self.assertEqual(factor, 1)

    def check(self, inputs, columns):
        with self.subTest(inputs=inputs, columns=columns):
            found = relations(Sheet(inputs, columns))
            cells = [[cell for source in inputs for cell in started(inputs, columns, name, source, ROWS)]
                     for name, _ in columns]
            self.assertIs(type(found), list)
            self.assertEqual(len(found), len(columns) - rank(cells))
            for row in found:
                self.assertEqual([type(row)] + [type(number) for number in row], [list] + [int] * len(columns))
                for beside in zip(*cells):
                    self.assertEqual(sum(number * cell for number, cell in zip(row, beside)), 0)
            self.check_in_steps(found)
            if found:
                self.check_all_are_sums(found)
            return len(columns), len(found)

    def test_against_the_cells(self):
        found = {}
        for inputs, columns in random_sheets(36, 400, most_back=1, most_tuples=3):
            found[self.check(inputs, columns)] = True
        self.assertEqual(sorted(found), [(columns, number) for columns in range(1, 5) for number in range(columns + 1)])

    def test_large_sheets(self):
        for inputs, columns in random_sheets(37, 30):
            self.check(inputs, columns)

    def test_multiples_of_one_input(self):
        for factors in itertools.product([-9, -6, 2, 4, 9], [-4, 3, 6], [-8, 1, 5], [0, 7]):
            columns = [(name, [(factor, "a", 1)] if factor else []) for name, factor in zip("stuv", factors)]
            self.assertEqual(self.check("a", columns), (4, 3))

    def test_sums_of_sums(self):
        # integers that are no sums of the first rows that come to mind
        self.check("ab", [("s", [(2, "a", 0), (4, "b", 0)]), ("t", [(4, "a", 0), (2, "b", 0)]),
                          ("u", [(6, "a", 0), (6, "b", 0)]), ("v", [(3, "a", 0), (-9, "b", 0)])])
        self.check("ab", [("s", [(5, "a", 0), (7, "b", 1)]), ("t", [(7, "a", 0), (9, "b", 1)]),
                          ("u", [(9, "a", 0), (-8, "b", 1)]), ("v", [(3, "a", 0), (2, "b", 1)])])

    def test_none(self):
        self.assertEqual(relations(Sheet("a", [("s", [(1, "a", 0)])])), [])
        self.assertEqual(relations(Sheet("a", LATE)), [])
        # only for one of the inputs
        self.assertEqual(relations(Sheet("ab", [("s", [(1, "a", 0), (1, "b", 0)]), ("t", [(1, "a", 0), (2, "b", 0)])])), [])

    def test_one(self):
        self.assertEqual(relations(Sheet("a", [("s", [(4, "a", 0)]), ("t", [(6, "a", 0)])])), [[3, -2]])
        self.assertEqual(relations(Sheet("a", [("t", [(6, "a", 2)]), ("s", [(-4, "a", 2)])])), [[2, 3]])
        self.assertEqual(relations(sheet=Sheet("a", SUMS)), [[1, 0, 1, -1]])
        self.assertEqual(relations(Sheet("a", [("s", [(1, "s", 1), (1, "a", 0)]), ("d", [(1, "s", 0), (-1, "s", 1)]),
                                               ("i", [(1, "a", 0)])])), [[0, 1, -1]])

    def test_several(self):
        def multiples(*factors):
            return relations(Sheet("a", [(name, [(factor, "a", 0)]) for name, factor in zip("stuv", factors)]))
        self.assertEqual(multiples(1, 2, 3), [[1, 1, -1], [0, 3, -2]])
        self.assertEqual(multiples(6, 9, 4), [[1, 2, -6], [0, 4, -9]])
        self.assertEqual(multiples(1, 1, 1), [[1, 0, -1], [0, 1, -1]])
        self.assertEqual(multiples(2, 2, 1, 1), [[1, 0, 0, -2], [0, 1, 0, -2], [0, 0, 1, -1]])
        self.assertEqual(multiples(-5, 7, 3, 2), [[1, 0, 1, 1], [0, 1, 1, -5], [0, 0, 2, -3]])

    def test_columns_of_nothing(self):
        sheet = Sheet("ab", [("s", [(1, "a", 0)]), ("z", []), ("t", [(1, "b", 0)]), ("y", [(3, "y", 2)])])
        self.assertEqual(relations(sheet), [[0, 1, 0, 0], [0, 0, 0, 1]])
        self.assertEqual(relations(Sheet("a", [("z", [])])), [[1]])
        self.assertEqual(relations(Sheet("a", [("z", []), ("y", []), ("x", [(1, "z", 0)])])),
                         [[1, 0, 0], [0, 1, 0], [0, 0, 1]])

    def test_new_lists_each_time(self):
        sheet = Sheet("a", [("s", [(1, "a", 0)]), ("z", []), ("y", [])])
        found = relations(sheet)
        found[0].clear()
        found.append([5])
        self.assertEqual(relations(sheet), [[0, 1, 0], [0, 0, 1]])


if __name__ == "__main__":
    unittest.main()
