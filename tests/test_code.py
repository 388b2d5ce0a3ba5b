import ast
import os
import unittest
import warnings

PACKAGE = os.path.join(os.path.dirname(os.path.dirname(os.path.abspath(__file__))), "feedcolumns")
INTERFACE = {
    "errors": ["FeedError", "InvalidName", "InvalidFormula", "Circular", "InvalidForm", "InvalidNumber",
               "UnlikeInputs", "TooDeep", "NothingToUndo", "Unreadable"],
    "sheets": ["Sheet"],
    "forms": ["column_form", "reduced", "first_powers", "shortest_formula"],
    "alike": ["are_alike", "parting", "classes", "relations"],
    "memory": ["felt", "bound", "reaching"],
    "growth": ["growth_of", "circles", "rest_of"],
    "reading": ["delay_of", "reader", "read_back"],
    "joins": ["behind", "beside", "multiple", "led_back", "loop_for", "stepped"],
    "endings": ["last_row", "resting", "told_form", "fitting"],
    "far": ["power_at", "total_at", "cell_at"],
    "desks": ["Desk", "ShortDesk"],
    "texts": ["show_sheet", "show_form"],
    "readings": ["read_sheet", "read_form"],
}


def texts():
    """The text of each file of the package, by its name."""
    found = {}
    for name in sorted(os.listdir(PACKAGE)):
        if name != "__pycache__":
            with open(os.path.join(PACKAGE, name), encoding="utf-8") as file:
                found[name] = file.read()
    return found


class CodeTest(unittest.TestCase):
    """What the rules for the code ask of its form."""

    def test_files(self):
        self.assertIn("__init__.py", texts())
        for name, text in texts().items():
            with self.subTest(name=name):
                self.assertTrue(name.endswith(".py"))
                self.assertEqual([sign for sign in text if sign != "\n" and not " " <= sign <= "~"], [])
                lines = text.split("\n")
                self.assertLess(len(lines), 400)
                self.assertEqual([line for line in lines if len(line) > 120], [])

    def test_no_warnings(self):
        for name, text in texts().items():
            with self.subTest(name=name), warnings.catch_warnings():
                warnings.simplefilter("error")
                compile(text, name, "exec")

    def test_functions_are_short(self):
        for name, text in texts().items():
            for part in ast.walk(ast.parse(text)):
                if isinstance(part, ast.FunctionDef):
                    with self.subTest(name=name, function=part.name):
                        self.assertLessEqual(part.end_lineno - part.lineno + 1, 40)

    def test_imports(self):
        free = {("math", "gcd"), ("math", "lcm"), ("itertools", "zip_longest")}
        for name, text in texts().items():
            for part in ast.walk(ast.parse(text)):
                self.assertNotIsInstance(part, ast.Import)
                if isinstance(part, ast.ImportFrom):
                    for what in part.names:
                        with self.subTest(name=name, what=what.name):
                            self.assertTrue(part.module.startswith("feedcolumns.") or (part.module, what.name) in free)

    def test_the_interface_stands_in_its_files(self):
        for file, names in INTERFACE.items():
            tree = ast.parse(texts()[file + ".py"])
            there = [part.name for part in tree.body if isinstance(part, (ast.FunctionDef, ast.ClassDef))]
            for name in names:
                with self.subTest(file=file, name=name):
                    self.assertIn(name, there)


if __name__ == "__main__":
    unittest.main()
