import doctest
import unittest

FORMS = '''
>>> from feedcolumns.forms import column_form, first_powers, reduced, shortest_formula
>>> from feedcolumns.sheets import Sheet
>>> sheet = Sheet("a", [("s", [(1, "s", 1), (1, "a", 0)]), ("d", [(1, "s", 0), (-1, "s", 3)]), ("t", [(1, "t", 1), (1, "s", 0)])])
>>> [sheet.names, sheet.cells("s", [[1, 2, 3]], 5), sheet.cells("d", [[1, 2, 3]], 5), sheet.cells("t", [[1, 2, 3]], 5), column_form(sheet, "s", "a"), column_form(sheet, "d", "a"), column_form(sheet, "t", "a"), reduced([1, 0, -1], [1, -1]), first_powers(([1], [1, -2, 1]), 4), shortest_formula(sheet, "d"), shortest_formula(sheet, "t")]
[['s', 'd', 't'], [1, 3, 6, 6, 6], [1, 3, 6, 5, 3], [1, 4, 10, 16, 22], ([1], [1, -1]), ([1, 1, 1], [1]), ([1], [1, -2, 1]), ([1, 1], [1]), [1, 2, 3, 4], [(1, 'a', 0), (1, 'a', 1), (1, 'a', 2)], [(2, 't', 1), (-1, 't', 2), (1, 'a', 0)]]
'''

ALIKE = '''
>>> from feedcolumns.alike import are_alike, classes, parting, relations
>>> from feedcolumns.memory import bound, felt, reaching
>>> from feedcolumns.sheets import Sheet
>>> sheet = Sheet("a", [("s", [(1, "s", 1), (1, "a", 0)]), ("d", [(1, "s", 0), (-1, "s", 3)]), ("e", [(-1, "e", 1), (1, "a", 0)]), ("r", [(1, "s", 0), (1, "e", 0)])])
>>> other = Sheet("a", [("z", [(1, "a", 0), (1, "a", 1), (1, "a", 2)])])
>>> [are_alike(sheet, "d", other, "z"), parting(sheet, "s", sheet, "d"), parting(sheet, "d", other, "z"), classes(sheet), relations(sheet), felt(sheet, "d"), felt(sheet, "s"), bound(sheet, "d", 5), reaching(sheet, "d", 5), bound(sheet, "s", 5)]
[True, (3, 'a', 1), None, [['d'], ['e'], ['r'], ['s']], [[1, 0, 1, -1]], [[0, 1, 2]], [None], 15, [[5, 5, 5]], None]
'''

GROWTH = '''
>>> from feedcolumns.growth import circles, growth_of, rest_of
>>> from feedcolumns.reading import delay_of, read_back, reader
>>> [growth_of(([1, 1, 1], [1])), growth_of(([0, 0, 0, 1], [1, -1])), growth_of(([1], [1, 1])), growth_of(([1], [1, -2, 1])), growth_of(([1], [1, -1, -1])), circles(([1], [1, 0, -1])), rest_of(([1], [1, -2, 0, 1])), reader(([1, 2], [1])), reader(([0, 2], [1])), delay_of(([0, 2], [1])), reader(([0, 0, 1], [1, 1])), read_back(([0, 2], [1]), [0, 3, 4]), read_back(([0, 2], [1]), [1, 3])]
[('ends', 2), ('repeats', 3, 1), ('repeats', 0, 2), ('power', 1), ('beyond',), [(1, 1), (2, 1)], [1, -1, -1], ([1], [1, 2]), None, 1, ([1, 1], [1]), [(3, 2), (2, 1)], None]
'''

JOINS = '''
>>> from feedcolumns.far import cell_at, power_at, total_at
>>> from feedcolumns.joins import behind, beside, led_back, loop_for, multiple, stepped
>>> from feedcolumns.sheets import Sheet
>>> pairs = ([1], [1, -1, -1])
>>> [behind(([1], [1, -1]), ([1, -1], [1])), beside(([1], [1, -1]), ([1], [1, 1])), multiple(pairs, 0), led_back(([1], [1]), 1), loop_for(([1], [1, -1]), ([1, 1], [1])), stepped(pairs, 2, 0), stepped(pairs, 2, 1), power_at(pairs, 6, 10), total_at(pairs, 6, 10), cell_at(Sheet("a", [("s", [(1, "s", 1), (1, "a", 0)])]), "s", [[(10 ** 20, 2)]], 10 ** 30, 1000)]
[([1], [1]), ([2], [1, 0, -1]), ([], [1]), ([1], [1, -1]), ([0, 0, -1], [1, 1]), ([1, -1], [1, -3, 1]), ([1], [1, -3, 1]), 3, 3, 0]
'''

ENDINGS = '''
>>> from feedcolumns.endings import fitting, last_row, resting, told_form
>>> from feedcolumns.sheets import Sheet
>>> sheet = Sheet("a", [("s", [(1, "s", 1), (1, "a", 0)]), ("e", [(-1, "e", 1), (1, "a", 0)]), ("t", [(1, "t", 1), (1, "s", 0)])])
>>> [last_row(([1], [1, -1, -1]), [1, -1, -1]), last_row(([1], [1, -1, -1]), [1]), resting(sheet), told_form([1, 2, 3, 4]), told_form([0, 1]), fitting(sheet, "s", 0, ([1], [1, 2])), fitting(sheet, "s", 1, ([3], [1, -1])), fitting(sheet, "s", 1, ([1], [1, 1]))]
[0, None, [1, -1, -1, 1], ([1], [1, -2, 1]), None, -2, 3, None]
'''

DESKS = '''
>>> from feedcolumns.desks import Desk, ShortDesk
>>> from feedcolumns.sheets import Sheet
>>> desk = Desk(Sheet("a", [("s", [(1, "s", 1), (1, "a", 0)])]))
>>> [desk.added("t", [(1, "t", 1), (1, "s", 0)]), desk.sheet.names, desk.put("s", [(1, "a", 2)]), len(desk), desk.story()[1], desk.undo(), desk.sheet.formula_of("s"), ShortDesk(desk.sheet, 2).sheet == desk.sheet]
[None, ['s', 't'], None, 2, ('put', 's', [(1, 'a', 2)]), None, [(1, 's', 1), (1, 'a', 0)], True]
'''

TEXTS = '''
>>> from feedcolumns.readings import read_form, read_sheet
>>> from feedcolumns.sheets import Sheet
>>> from feedcolumns.texts import show_form, show_sheet
>>> [show_sheet(Sheet("ab", [("s", [(1, "s", 1), (-2, "a", 0)]), ("z", [])])), show_form(([1, 1, 1], [1, -1])), show_form(([], [1])), read_sheet('a; s = 1s1 1a0').formula_of("s"), read_form('0 2 / 1')]
['ab; s = 1s1 -2a0; z =', '1 1 1 / 1 -1', '0 / 1', [(1, 's', 1), (1, 'a', 0)], ([0, 2], [1])]
'''


class ExampleTest(unittest.TestCase):
    """The examples of the document's interface, word for word."""

    def check(self, text):
        told = []
        example = doctest.DocTestParser().get_doctest(text, {}, "example", None, 0)
        result = doctest.DocTestRunner(verbose=False).run(example, out=told.append)
        self.assertEqual(result.failed, 0, "".join(told))
        self.assertGreater(result.attempted, 0)

    def test_sheets_and_forms(self):
        self.check(FORMS)

    def test_alike_and_memory(self):
        self.check(ALIKE)

    def test_growth_and_reading(self):
        self.check(GROWTH)

    def test_joins_and_far(self):
        self.check(JOINS)

    def test_endings(self):
        self.check(ENDINGS)

    def test_desks(self):
        self.check(DESKS)

    def test_texts_and_readings(self):
        self.check(TEXTS)


if __name__ == "__main__":
    unittest.main()
