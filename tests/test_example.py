import doctest
import unittest

FORMS = '''
>>> from feedcolumns.forms import column_form, first_powers, reduced, shortest_formula
>>> from feedcolumns.sheets import Sheet
>>> sheet = Sheet("a", [("s", [(1, "s", 1), (1, "a", 0)]), ("d", [(1, "s", 0), (-1, "s", 3)]), ("t", [(1, "t", 1), (1, "s", 0)])])
>>> [sheet.names, sheet.cells("s", [[1, 2, 3]], 5), sheet.cells("d", [[1, 2, 3]], 5), sheet.cells("t", [[1, 2, 3]], 5), column_form(sheet, "s", "a"), column_form(sheet, "d", "a"), column_form(sheet, "t", "a"), reduced([1, 0, -1], [1, -1]), first_powers(([1], [1, -2, 1]), 4), shortest_formula(sheet, "d"), shortest_formula(sheet, "t")]
[['s', 'd', 't'], [1, 3, 6, 6, 6], [1, 3, 6, 5, 3], [1, 4, 10, 16, 22], ([1], [1, -1]), ([1, 1, 1], [1]), ([1], [1, -2, 1]), ([1, 1], [1]), [1, 2, 3, 4], [(1, 'a', 0), (1, 'a', 1), (1, 'a', 2)], [(2, 't', 1), (-1, 't', 2), (1, 'a', 0)]]
'''


class ExampleTest(unittest.TestCase):
    """The examples of the document's interface, word for word."""

    def check(self, text):
        told = []
        example = doctest.DocTestParser().get_doctest(text, {}, "example", None, 0)
        result = doctest.DocTestRunner(verbose=False).run(example, out=told.append)
        self.assertEqual(result.failed, 0, "".join(told))
        self.assertGreater(result.attempted, 0)

    def test_sheets_and_forms(self):
        self.check(FORMS)


if __name__ == "__main__":
    unittest.main()
