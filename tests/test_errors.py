import unittest

from feedcolumns import errors
from feedcolumns.errors import (
    Circular, FeedError, InvalidForm, InvalidFormula, InvalidName, InvalidNumber, NothingToUndo, TooDeep,
    UnlikeInputs, Unreadable)

KINDS = [Circular, InvalidForm, InvalidFormula, InvalidName, InvalidNumber, NothingToUndo, TooDeep,
         UnlikeInputs, Unreadable]


class ErrorsTest(unittest.TestCase):
    def test_value_by_position_and_by_name(self):
        for kind in KINDS + [FeedError]:
            for value in ["x", 3, -10 ** 5000, None, ("a", "b"), ([1], []), [1, [2]], "", object()]:
                with self.subTest(kind=kind):
                    self.assertIs(kind(value).value, value)
                    self.assertIs(kind(value=value).value, value)

    def test_exactly_one_argument(self):
        for kind in KINDS + [FeedError]:
            with self.subTest(kind=kind):
                self.assertRaises(TypeError, kind)
                self.assertRaises(TypeError, kind, 1, 2)

    def test_direct_subclasses(self):
        self.assertEqual(FeedError.__bases__, (ValueError,))
        for kind in KINDS:
            with self.subTest(kind=kind):
                self.assertEqual(kind.__bases__, (FeedError,))

    def test_none_is_a_subclass_of_another(self):
        for one in KINDS:
            for other in KINDS:
                self.assertEqual(issubclass(one, other), one is other)

    def test_raised_and_caught(self):
        for kind in KINDS + [FeedError]:
            for caught in [kind, FeedError, ValueError]:
                with self.subTest(kind=kind, caught=caught):
                    with self.assertRaises(caught) as told:
                        raise kind([7])
                    self.assertIs(type(told.exception), kind)
                    self.assertEqual(told.exception.value, [7])

    def test_no_other_exception_classes(self):
        there = [value for value in vars(errors).values() if isinstance(value, type)]
        self.assertEqual(sorted(kind.__name__ for kind in there), sorted(kind.__name__ for kind in KINDS + [FeedError]))
        for kind in there:
            self.assertEqual(kind.__module__, "feedcolumns.errors")


if __name__ == "__main__":
    unittest.main()
