import itertools
import random
import unittest

from feedcolumns.errors import InvalidName, InvalidNumber
from feedcolumns.memory import bound, felt, reaching
from feedcolumns.sheets import Sheet
from helpers import Case, random_sheets, started, walked

# a form of a degree of at most 16 that is still felt behind row 20 is felt for ever
ROWS = 60
GREAT = 10 ** 30
SUMS = [("s", [(1, "s", 1), (1, "a", 0)]), ("d", [(1, "s", 0), (-1, "s", 3)]), ("n", [(1, "s", 0), (-1, "s", 0)])]


def ending_sheets(seed, number):
    """Inputs and columns without loops, so that all columns end."""
    chance = random.Random(seed)
    for _ in range(number):
        inputs = "abc"[:chance.randint(1, 3)]
        columns = []
        for name in "stuv"[:chance.randint(1, 4)]:
            others = list(inputs) + [other for other, _ in columns]
            columns.append((name, [(chance.choice([-9, -2, -1, 1, 3]), chance.choice(others), chance.randint(0, 4))
                                   for _ in range(chance.randint(0, 5))]))
        yield inputs, columns


class MemoryTest(Case):
    def check(self, inputs, columns, name):
        """Compare all three with the cells behind each single 1; tell whether the column ends."""
        sheet = Sheet(inputs, columns)
        factors = [started(inputs, columns, name, source, ROWS) for source in inputs]
        backs = [None if any(row[20:]) else [back for back in range(20) if row[back] != 0] for row in factors]
        with self.subTest(inputs=inputs, columns=columns, name=name):
            self.assertEqual(felt(sheet, name), backs)
            for limit in [0, 1, 7, GREAT]:
                if None in backs:
                    self.assertIsNone(bound(sheet, name, limit))
                    self.assertIsNone(reaching(sheet, name, limit))
                else:
                    self.check_reached(inputs, columns, name, limit, backs)
        return None not in backs

    def check_reached(self, inputs, columns, name, limit, backs):
        sheet = Sheet(inputs, columns)
        last = max([back for row in backs for back in row], default=-1)
        fed = reaching(sheet, name, limit)
        self.assertEqual([len(row) for row in fed], [last + 1 for _ in inputs])
        for row, there in zip(fed, backs):
            for at, number in enumerate(row):
                self.assertIs(type(number), int)
                self.assertEqual(abs(number), limit if last - at in there else 0)
        most = bound(sheet, name, limit)
        self.assertEqual(([0] + walked(inputs, columns, name, fed, last + 1))[-1], most)
        # and no others make more
        chance = random.Random(41)
        for _ in range(3):
            fed = [[chance.choice([-limit, limit, 0]) for _ in range(ROWS)] for _ in inputs]
            self.assertLessEqual(max(abs(cell) for cell in walked(inputs, columns, name, fed, ROWS)), most)

    def test_columns_that_end(self):
        for inputs, columns in ending_sheets(42, 60):
            for name, _ in columns:
                self.assertTrue(self.check(inputs, columns, name))

    def test_columns_that_go_on_for_ever_and_others(self):
        found = {}
        for inputs, columns in random_sheets(43, 80, most_tuples=4):
            for name, _ in columns:
                found[self.check(inputs, columns, name)] = True
        self.assertEqual(sorted(found), [False, True])

    def test_loops_that_cancel(self):
        self.assertFalse(self.check("a", SUMS, "s"))
        self.assertTrue(self.check("a", SUMS, "d"))
        self.assertTrue(self.check("a", SUMS, "n"))
        self.assertEqual(felt(Sheet("a", SUMS), "d"), [[0, 1, 2]])
        self.assertEqual(bound(Sheet("a", SUMS), "d", 5), 15)
        self.assertEqual(reaching(Sheet("a", SUMS), "d", 5), [[5, 5, 5]])

    def test_against_all_inputs(self):
        for inputs, columns in [
                ("a", [("s", [(2, "a", 0), (-3, "a", 2), (1, "a", 3)])]),
                ("ab", [("s", [(2, "a", 0), (-3, "b", 2), (1, "a", 1)]), ("t", [(-1, "s", 0), (-3, "b", 2)])]),
                ("abc", [("s", [(-1, "c", 1), (4, "a", 0)]), ("t", [(1, "s", 0), (-4, "a", 0)])])]:
            sheet = Sheet(inputs, columns)
            for name in sheet.names:
                rows = len(reaching(sheet, name, 1)[0])
                cells = [sheet.cells(name, list(fed), rows)[-1]
                         for fed in itertools.product(itertools.product([-1, 0, 1], repeat=rows), repeat=len(inputs))]
                self.assertEqual(max(cells), bound(sheet, name, 1))
                self.assertEqual(min(cells), -bound(sheet, name, 1))

    def test_what_is_fed_first_is_felt_farthest_back(self):
        sheet = Sheet("ab", [("s", [(2, "a", 0), (-3, "a", 3), (-4, "b", 1)])])
        self.assertEqual(felt(sheet, "s"), [[0, 3], [1]])
        self.assertEqual(bound(sheet, "s", 10), 90)
        self.assertEqual(reaching(sheet, "s", 10), [[-10, 0, 0, 10], [0, 0, -10, 0]])

    def test_backs_ascend(self):
        sheet = Sheet("a", [("s", [(1, "a", 4), (2, "a", 0), (3, "a", 2), (-3, "a", 2), (1, "a", 1)])])
        self.assertEqual(felt(sheet, "s"), [[0, 1, 4]])
        self.assertEqual(reaching(sheet, "s", 1), [[1, 0, 0, 1, 1]])

    def test_an_input_that_is_not_felt(self):
        sheet = Sheet("cab", [("s", [(5, "a", 2)]), ("t", [(1, "t", 1), (1, "b", 0)])])
        self.assertEqual(felt(sheet, "s"), [[], [2], []])
        self.assertEqual(bound(sheet, "s", 3), 15)
        self.assertEqual(reaching(sheet, "s", 3), [[0, 0, 0], [3, 0, 0], [0, 0, 0]])
        self.assertEqual(felt(sheet, "t"), [[], [], None])
        self.assertIsNone(bound(sheet, "t", 3))
        self.assertIsNone(reaching(sheet, "t", 3))

    def test_for_ever_with_gaps_and_at_one_input_alone(self):
        sheet = Sheet("ab", [("s", [(-1, "s", 4), (1, "a", 3), (1, "b", 0), (1, "b", 4)])])
        self.assertEqual(felt(sheet, "s"), [None, [0]])
        for limit in [0, 1, GREAT]:
            self.assertIsNone(bound(sheet, "s", limit))
            self.assertIsNone(reaching(sheet, "s", limit))

    def test_nothing_felt_at_all(self):
        sheet = Sheet("ab", [("z", []), ("y", [(2, "y", 1), (1, "z", 0)]), ("n", [(1, "a", 1), (-1, "a", 1)])])
        for name in "zyn":
            self.assertEqual(felt(sheet, name), [[], []])
            for limit in [0, 1, GREAT]:
                self.assertEqual(bound(sheet, name, limit), 0)
                self.assertEqual(reaching(sheet, name, limit), [[], []])

    def test_limits(self):
        sheet = Sheet("a", [("s", [(2, "a", 0), (-3, "a", 1)])])
        self.assertEqual([bound(sheet, "s", limit) for limit in [0, 1, 2, GREAT]], [0, 5, 10, 5 * GREAT])
        self.assertEqual([reaching(sheet, "s", limit) for limit in [0, 1, 2, GREAT]],
                         [[[0, 0]], [[-1, 1]], [[-2, 2]], [[-GREAT, GREAT]]])

    def test_by_name(self):
        sheet = Sheet("a", SUMS)
        self.assertEqual(felt(name="d", sheet=sheet), [[0, 1, 2]])
        self.assertEqual(bound(limit=2, name="d", sheet=sheet), 6)
        self.assertEqual(reaching(limit=2, name="d", sheet=sheet), [[2, 2, 2]])

    def test_the_name_is_checked_ahead_of_the_limit(self):
        sheet = Sheet("ab", [("s", [(1, "a", 0)]), ("t", [(1, "t", 1), (1, "b", 0)])])
        for name in ["a", "x", "", "st", "S"]:
            with self.subTest(name=name):
                self.raises(InvalidName, name, felt, sheet, name)
                for limit in [-1, 0, 3]:
                    self.raises(InvalidName, name, bound, sheet, name, limit)
                    self.raises(InvalidName, name, reaching, sheet, name, limit=limit)

    def test_invalid_limits(self):
        sheet = Sheet("ab", [("s", [(1, "a", 0)]), ("t", [(1, "t", 1), (1, "b", 0)]), ("z", [])])
        # where there is no bound, too
        for name in "stz":
            for limit in [-1, -2, -GREAT]:
                with self.subTest(name=name, limit=limit):
                    self.raises(InvalidNumber, limit, bound, sheet, name, limit)
                    self.raises(InvalidNumber, limit, reaching, limit=limit, name=name, sheet=sheet)

    def test_new_lists_each_time(self):
        columns = [("s", [(2, "a", 0), (-3, "b", 1)]), ("z", []), ("t", [(1, "t", 1), (1, "b", 0)])]
        sheet = Sheet("ab", columns)
        for call in [lambda name: felt(sheet, name), lambda name: reaching(sheet, name, 4)]:
            for name in "sz":
                before = [list(row) for row in call(name)]
                found = call(name)
                self.assertIsNot(found[0], found[1])
                found[0].append(8)
                found[1].clear()
                found.append([])
                self.assertEqual(call(name), before)
        felt(sheet, "t").append(1)
        self.assertEqual(felt(sheet, "t"), [[], None])
        self.assertEqual(sheet, Sheet("ab", columns))


if __name__ == "__main__":
    unittest.main()
