import copy
import random
import unittest
from unittest import mock

from feedcolumns.desks import Desk, ShortDesk
from feedcolumns.errors import Circular, InvalidFormula, InvalidName, NothingToUndo, TooDeep
from feedcolumns.sheets import Sheet
from helpers import Case, random_sheets, rank, shortest_ring, started

SUMS = [("s", [(1, "s", 1), (1, "a", 0)])]
TWO = SUMS + [("t", [(1, "t", 1), (1, "s", 0)])]


def degree_of(inputs, columns, name):
    """The degree of the common bottom of a column: so many late cells tell all later ones."""
    cells = [started(inputs, columns, name, source, 80) for source in inputs]
    return rank([one[row:row + 24] for one in cells for row in range(24, 50)])


def wrong(inputs, columns):
    """The error of the sheet check and its value, None if there is none."""
    known = []
    for name in list(inputs) + [name for name, _ in columns]:
        if not (len(name) == 1 and name in "abcdefghijklmnopqrstuvwxyz") or name in known:
            return InvalidName, name
        known.append(name)
    for name, formula in columns:
        if any(other not in known for _, other, _ in formula):
            return InvalidFormula, name
    ring = shortest_ring(columns)
    return (Circular, ring) if ring else None


class Model:
    """What a desk has to do, told by lists of columns."""

    def __init__(self, inputs, columns, most=None):
        self.inputs = inputs
        self.states = [copy.deepcopy(columns)]
        self.calls = []
        self.most = most

    def columns_behind(self, call):
        """The columns that there would be behind a call, None for a column that is not there."""
        columns = self.states[-1]
        if call[0] == "added":
            return columns + [(call[1], call[2])]
        if call[1] not in [name for name, _ in columns]:
            return None
        if call[0] == "put":
            return [(name, call[2] if name == call[1] else formula) for name, formula in columns]
        return [(name, formula) for name, formula in columns if name != call[1]]

    def make(self, call):
        """The error and its value, None if the call is taken."""
        columns = self.columns_behind(call)
        if columns is None:
            return InvalidName, call[1]
        found = wrong(self.inputs, columns)
        if found is None and self.most is not None:
            degrees = [degree_of(self.inputs, columns, name) for name, _ in columns]
            deep = [degree for degree in degrees if degree > self.most]
            found = (TooDeep, deep[0]) if deep else None
        if found is None:
            self.states.append(copy.deepcopy(columns))
            self.calls.append(copy.deepcopy(call))
        return found

    def undo(self):
        if not self.calls:
            return NothingToUndo, 0
        self.states.pop()
        self.calls.pop()
        return None


class DeskCase(Case):
    def check_like(self, desk, model):
        self.assertEqual(desk.sheet, Sheet(model.inputs, model.states[-1]))
        self.assertEqual(desk.story(), model.calls)
        self.assertEqual([type(call) for call in desk.story()], [tuple] * len(model.calls))
        self.assertEqual(len(desk), len(model.calls))

    def random_call(self, chance, model):
        names = [name for name, _ in model.states[-1]]
        kind = chance.choice(["put", "put", "added", "added", "dropped", "undo", "undo"])
        if kind == "undo":
            return (kind,)
        if kind == "dropped" and len(names) == 1:
            kind = "put"
        name = chance.choice(names * 2 + list("stuvx") + ["", "S", "a", "st"])
        if kind == "dropped":
            return kind, name
        others = names * 3 + list(model.inputs) * 3 + [name, "s", "t", "x", ""]
        formula = [(chance.choice([-9, -1, 1, 2]), chance.choice(others), chance.choice([0, 1, 1, 2, 4]))
                   for _ in range(chance.randint(0, 3))]
        return kind, name, formula

    def check_run(self, chance, desk, model, steps):
        found = {}
        for _ in range(steps):
            call = self.random_call(chance, model)
            wanted = model.undo() if call == ("undo",) else model.make(call)
            handed = copy.deepcopy(call)
            method = getattr(desk, call[0])
            if wanted is None:
                self.assertIsNone(method(*handed[1:]))
            else:
                self.raises(*wanted, method, *handed[1:])
            self.assertEqual(handed, call)
            if len(handed) == 3:
                # what was handed in may be changed afterwards
                handed[2].append((1, "s", 1))
            self.check_like(desk, model)
            found[call[0], wanted and wanted[0]] = True
        return found


class DeskTest(DeskCase):
    def test_calls_in_any_sequence(self):
        chance = random.Random(131)
        found = {}
        for inputs, columns in random_sheets(132, 60, most_columns=3, most_back=2, most_tuples=3):
            with self.subTest(inputs=inputs, columns=columns):
                desk = Desk(Sheet(inputs, columns))
                found.update(self.check_run(chance, desk, Model(inputs, columns), 40))
        for kind in ["put", "added", "dropped"]:
            for error in [None, InvalidName, InvalidFormula]:
                self.assertIn((kind, error), found)
        for kind in ["put", "added"]:
            self.assertIn((kind, Circular), found)
        self.assertIn(("undo", None), found)
        self.assertIn(("undo", NothingToUndo), found)

    def test_a_new_desk(self):
        sheet = Sheet("a", TWO)
        desk = Desk(sheet=sheet)
        self.assertEqual(desk.sheet, sheet)
        self.assertEqual(len(desk), 0)
        self.assertEqual(desk.story(), [])
        self.raises(NothingToUndo, 0, desk.undo)
        self.assertEqual(sheet, Sheet("a", TWO))

    def test_calls_and_their_story(self):
        desk = Desk(Sheet("a", SUMS))
        self.assertIsNone(desk.added("t", [(1, "t", 1), (1, "s", 0)]))
        self.assertIsNone(desk.put(formula=[(1, "a", 2)], name="s"))
        self.assertIsNone(desk.added(formula=[], name="z"))
        self.assertIsNone(desk.dropped(name="t"))
        self.assertEqual(desk.sheet, Sheet("a", [("s", [(1, "a", 2)]), ("z", [])]))
        self.assertEqual(desk.story(), [("added", "t", [(1, "t", 1), (1, "s", 0)]), ("put", "s", [(1, "a", 2)]),
                                        ("added", "z", []), ("dropped", "t")])
        self.assertEqual(len(desk), 4)

    def test_undo_of_each_kind_of_call(self):
        desk = Desk(Sheet("a", TWO + [("u", [])]))
        desk.dropped("u")
        desk.put("t", [(5, "a", 0)])
        desk.dropped("s")
        desk.added("s", [(7, "t", 0)])
        self.assertEqual(desk.sheet, Sheet("a", [("t", [(5, "a", 0)]), ("s", [(7, "t", 0)])]))
        self.assertIsNone(desk.undo())
        self.assertEqual(desk.sheet, Sheet("a", [("t", [(5, "a", 0)])]))
        # the dropped column is back in its place
        self.assertIsNone(desk.undo())
        self.assertEqual(desk.sheet, Sheet("a", SUMS + [("t", [(5, "a", 0)])]))
        self.assertIsNone(desk.undo())
        self.assertEqual(desk.sheet, Sheet("a", TWO))
        self.assertEqual(desk.story(), [("dropped", "u")])
        self.assertIsNone(desk.undo())
        self.assertEqual(desk.sheet, Sheet("a", TWO + [("u", [])]))
        for _ in range(2):
            self.raises(NothingToUndo, 0, desk.undo)
            self.assertEqual(desk.sheet, Sheet("a", TWO + [("u", [])]))
            self.assertEqual(len(desk), 0)

    def test_undo_goes_past_refused_calls_and_what_is_taken_back(self):
        desk = Desk(Sheet("a", SUMS))
        desk.put("s", [(1, "a", 1)])
        desk.put("s", [(1, "a", 2)])
        self.raises(InvalidName, "t", desk.put, "t", [])
        self.raises(InvalidName, "s", desk.added, "s", [])
        desk.undo()
        self.assertEqual(desk.sheet.formula_of("s"), [(1, "a", 1)])
        desk.put("s", [(1, "a", 3)])
        desk.undo()
        desk.undo()
        self.assertEqual(desk.sheet, Sheet("a", SUMS))
        self.raises(NothingToUndo, 0, desk.undo)

    def test_a_call_that_changes_nothing_counts(self):
        desk = Desk(Sheet("a", SUMS))
        desk.put("s", SUMS[0][1])
        self.assertEqual(desk.sheet, Sheet("a", SUMS))
        self.assertEqual(len(desk), 1)
        desk.undo()
        self.assertEqual(len(desk), 0)

    def test_forty_calls(self):
        desk = Desk(Sheet("a", SUMS))
        for number in range(1, 41):
            desk.put("s", [(number, "a", 0)])
        self.assertEqual(len(desk), 40)
        for number in range(39, 0, -1):
            desk.undo()
            self.assertEqual(desk.sheet.formula_of("s"), [(number, "a", 0)])
        desk.undo()
        self.assertEqual(desk.sheet, Sheet("a", SUMS))

    def test_what_is_handed_in_or_returned_may_be_changed(self):
        formula = [(1, "a", 0)]
        desk = Desk(Sheet("a", TWO))
        desk.put("s", formula)
        desk.added("u", formula)
        desk.dropped("t")
        formula.append((5, "a", 1))
        formula[0] = (9, "s", 4)
        wanted = [("put", "s", [(1, "a", 0)]), ("added", "u", [(1, "a", 0)]), ("dropped", "t")]
        for _ in range(2):
            story = desk.story()
            self.assertEqual(story, wanted)
            story[0][2].append((1, "a", 1))
            story[1][2].clear()
            story.pop()
            desk.sheet.names.append("x")
            desk.sheet.formula_of("s").clear()
        self.assertEqual(desk.sheet, Sheet("a", [("s", [(1, "a", 0)]), ("u", [(1, "a", 0)])]))
        self.assertIsNot(desk.story()[0][2], desk.story()[1][2])
        desk.undo()
        desk.undo()
        self.assertEqual(desk.sheet, Sheet("a", [("s", [(1, "a", 0)]), ("t", TWO[1][1])]))

    def test_the_sheet_handed_in_stays(self):
        sheet = Sheet("a", TWO)
        desk = Desk(sheet)
        before = desk.sheet
        desk.put("s", [])
        desk.dropped("t")
        self.assertEqual(sheet, Sheet("a", TWO))
        self.assertEqual(before, Sheet("a", TWO))

    def test_names_are_checked_first(self):
        desk = Desk(Sheet("ab", TWO))
        for formula in [[], [(1, "x", 0)], [(1, "s", 0), (1, "t", 0)]]:
            for name in ["x", "a", "", "st", "S"]:
                self.raises(InvalidName, name, desk.put, name, formula)
            for name in ["s", "t", "a", "b", "", "st", "S", "1", "{"]:
                self.raises(InvalidName, name, desk.added, name, formula)
        for name in ["x", "a", "", "st", "S"]:
            self.raises(InvalidName, name, desk.dropped, name)
        self.assertEqual(desk, Desk(Sheet("ab", TWO)))

    def test_formulas_are_checked_ahead_of_rings(self):
        desk = Desk(Sheet("a", TWO))
        self.raises(InvalidFormula, "s", desk.put, "s", [(1, "s", 0), (1, "x", 0)])
        self.raises(InvalidFormula, "u", desk.added, "u", [(1, "u", 0), (1, "x", 0)])
        self.raises(Circular, "s", desk.put, "s", [(1, "s", 0), (1, "t", 0)])
        self.raises(Circular, "st", desk.put, "s", [(1, "t", 0)])
        self.raises(Circular, "u", desk.added, "u", [(1, "u", 0)])
        # the first column that refers to what is gone
        self.raises(InvalidFormula, "t", desk.dropped, "s")
        desk.put("t", [(1, "t", 2)])
        self.assertIsNone(desk.dropped("t"))

    def test_refused_calls_change_nothing(self):
        desk = Desk(Sheet("a", TWO))
        desk.put("s", [(2, "a", 0)])
        same = Desk(Sheet("a", TWO))
        same.put("s", [(2, "a", 0)])
        for kind, value, call, args in [
                (InvalidName, "x", desk.put, ("x", [])), (InvalidFormula, "s", desk.put, ("s", [(1, "x", 0)])),
                (Circular, "st", desk.put, ("s", [(1, "t", 0)])), (InvalidName, "s", desk.added, ("s", [])),
                (InvalidFormula, "t", desk.dropped, ("s",))]:
            self.raises(kind, value, call, *args)
            self.assertEqual(desk, same)

    def test_equality(self):
        def made(*calls, columns=TWO, most=None, inputs="a"):
            sheet = Sheet(inputs, columns)
            desk = Desk(sheet) if most is None else ShortDesk(sheet, most)
            for kind, *args in calls:
                getattr(desk, kind)(*args)
            return desk

        put = ("put", "s", [(1, "a", 2)])
        same = [lambda: made(), lambda: made(most=2), lambda: made(most=3), lambda: made(put), lambda: made(put, most=2),
                lambda: made(columns=SUMS), lambda: made(("put", "s", SUMS[0][1])), lambda: made(put, ("dropped", "t")),
                lambda: made(("dropped", "t"), put), lambda: made(inputs="ab")]
        for at, one in enumerate(same):
            for other_at, other in enumerate(same):
                self.assertIs(one() == other(), at == other_at)
                self.assertIs(one() != other(), at != other_at)
        self.assertEqual(made(put, ("undo",)), made())
        self.assertEqual(made(put, ("undo",), most=2), made(most=2))
        # the same story and limit, but from another sheet on
        self.assertNotEqual(made(columns=SUMS), made(columns=[("s", [])]))
        self.assertNotEqual(made(("put", "s", [])), made(("put", "s", []), columns=SUMS))
        for other in [None, 0, "a", [], Sheet("a", TWO), made().sheet, made().story(), mock.ANY]:
            self.assertFalse(made() == other)
            self.assertTrue(made() != other)

    def test_methods_stand_in_the_class(self):
        for name in ["sheet", "put", "added", "dropped", "undo", "story", "__init__", "__len__", "__eq__"]:
            self.assertIn(name, vars(Desk))
        self.assertIsInstance(vars(Desk)["sheet"], property)
        with self.assertRaises(AttributeError):
            Desk(Sheet("a", SUMS)).sheet = Sheet("a", TWO)


class ShortDeskTest(DeskCase):
    def test_it_is_a_subclass(self):
        self.assertTrue(issubclass(ShortDesk, Desk))
        self.assertIsInstance(ShortDesk(Sheet("a", SUMS), 1), Desk)
        for name in ["put", "added", "dropped", "__init__"]:
            self.assertIn(name, vars(ShortDesk))

    def test_when_it_is_made(self):
        for inputs, columns in random_sheets(133, 40, most_back=2, most_tuples=3):
            sheet = Sheet(inputs, columns)
            degrees = [degree_of(inputs, columns, name) for name, _ in columns]
            for most in range(5):
                deep = [degree for degree in degrees if degree > most]
                with self.subTest(inputs=inputs, columns=columns, most=most):
                    if deep:
                        self.raises(TooDeep, deep[0], ShortDesk, sheet, most)
                        self.raises(TooDeep, deep[0], ShortDesk, most=most, sheet=sheet)
                    else:
                        self.assertEqual(ShortDesk(sheet, most).sheet, sheet)

    def test_the_first_column_that_is_too_deep(self):
        columns = [("z", []), ("s", [(1, "s", 2), (1, "a", 0)]), ("t", [(1, "t", 3), (1, "s", 0)]), ("u", [(1, "u", 1)])]
        self.raises(TooDeep, 2, ShortDesk, Sheet("a", columns), 1)
        self.raises(TooDeep, 5, ShortDesk, Sheet("a", columns), 2)
        self.raises(TooDeep, 5, ShortDesk, Sheet("a", columns), 4)
        self.assertEqual(ShortDesk(Sheet("a", columns), 5).sheet.names, ["z", "s", "t", "u"])
        self.raises(TooDeep, 0, ShortDesk, Sheet("a", [("z", [])]), -1)

    def test_the_common_bottom_of_all_inputs(self):
        columns = [("s", [(1, "s", 1), (1, "a", 0)]), ("e", [(-1, "e", 1), (1, "b", 0)]), ("x", [(1, "s", 0), (1, "e", 0)])]
        self.raises(TooDeep, 2, ShortDesk, Sheet("ab", columns), 1)
        self.assertEqual(len(ShortDesk(Sheet("ab", columns), 2)), 0)

    def test_loops_that_cancel_are_not_deep(self):
        columns = [("d", [(1, "d", 4), (1, "a", 0), (-1, "a", 4)]), ("y", [(9, "y", 4)])]
        self.assertEqual(ShortDesk(Sheet("a", columns), 0).sheet, Sheet("a", columns))

    def test_calls_in_any_sequence(self):
        chance = random.Random(134)
        found = {}
        for inputs, columns in random_sheets(135, 60, most_columns=2, most_back=1, most_tuples=2):
            most = max(degree_of(inputs, columns, name) for name, _ in columns) + chance.choice([0, 0, 1])
            with self.subTest(inputs=inputs, columns=columns, most=most):
                desk = ShortDesk(Sheet(inputs, columns), most)
                found.update(self.check_run(chance, desk, Model(inputs, columns, most), 40))
        for kind in ["put", "added"]:
            for error in [None, InvalidName, InvalidFormula, Circular, TooDeep]:
                self.assertIn((kind, error), found)
        for key in [("dropped", None), ("dropped", InvalidName), ("undo", None), ("undo", NothingToUndo)]:
            self.assertIn(key, found)

    def test_too_deep_calls(self):
        desk = ShortDesk(Sheet("a", TWO), 2)
        self.raises(TooDeep, 3, desk.put, "s", [(1, "s", 2), (1, "a", 0)])
        self.raises(TooDeep, 3, desk.added, "u", [(1, "u", 1), (1, "t", 0)])
        # the first column that is too deep may be another one
        other = ShortDesk(Sheet("a", [("s", [(1, "s", 1), (1, "t", 1)]), ("t", [(1, "a", 0)])]), 1)
        self.raises(TooDeep, 3, other.put, "t", [(1, "t", 2), (1, "a", 0)])
        self.assertEqual(desk, ShortDesk(Sheet("a", TWO), 2))
        self.assertIsNone(desk.put("t", [(1, "t", 2), (1, "a", 0)]))
        self.assertIsNone(desk.dropped("t"))
        self.assertIsNone(desk.undo())
        self.assertIsNone(desk.undo())
        self.assertEqual(desk, ShortDesk(Sheet("a", TWO), 2))

    def test_behind_the_other_errors(self):
        desk = ShortDesk(Sheet("a", TWO), 2)
        deep = [(1, "s", 3), (1, "a", 0)]
        self.raises(InvalidName, "x", desk.put, "x", deep)
        self.raises(InvalidFormula, "s", desk.put, "s", deep + [(1, "x", 0)])
        self.raises(Circular, "s", desk.put, "s", deep + [(1, "s", 0)])
        self.raises(InvalidName, "t", desk.added, "t", deep)
        self.raises(InvalidFormula, "u", desk.added, "u", deep + [(1, "u", 4), (1, "x", 0)])
        self.raises(Circular, "u", desk.added, "u", [(1, "u", 0), (1, "u", 3), (1, "a", 0)])
        self.raises(InvalidFormula, "t", desk.dropped, "s")
        self.assertEqual(desk, ShortDesk(Sheet("a", TWO), 2))

    def test_undo_is_never_refused(self):
        desk = ShortDesk(Sheet("a", TWO), 2)
        desk.dropped("t")
        desk.put("s", [])
        self.assertEqual([desk.undo(), desk.undo()], [None, None])
        self.assertEqual(desk.sheet, Sheet("a", TWO))
        self.raises(NothingToUndo, 0, desk.undo)


if __name__ == "__main__":
    unittest.main()
