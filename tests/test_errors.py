"""Point [3]: the errors."""

import unittest

from eightcells import errors
from eightcells.errors import (
    CellError, InvalidBook, InvalidFilling, InvalidMove, InvalidNumber, InvalidPuzzle, InvalidQuestion,
    InvalidRelation, InvalidStart, InvalidTable, InvalidText, NothingToUndo, Undefined)

ARGUMENTS = {
    InvalidNumber: ("value",),
    InvalidRelation: ("value",),
    InvalidBook: ("value",),
    InvalidPuzzle: ("part", "place"),
    InvalidStart: ("value",),
    InvalidFilling: ("value",),
    InvalidTable: ("value",),
    InvalidMove: ("value",),
    InvalidQuestion: ("value",),
    InvalidText: ("text", "at"),
    Undefined: ("what",),
    NothingToUndo: ("word",),
}

SAMPLES = [0, -7, 10 ** 5000, True, None, "", "tie", (), (1, (2, [3])), [], [[0], None], {"a": 1}]


class ErrorsTest(unittest.TestCase):

    def assert_keeps(self, made, names, arguments):
        for name, argument in zip(names, arguments):
            self.assertIs(getattr(made, name), argument)

    def test_there_are_these_errors_and_no_others(self):
        found = {thing for thing in vars(errors).values() if isinstance(thing, type)}
        self.assertEqual(found, {CellError, *ARGUMENTS})
        self.assertEqual({thing.__module__ for thing in found}, {"eightcells.errors"})

    def test_each_keeps_its_arguments_by_place(self):
        for error, names in ARGUMENTS.items():
            for first in SAMPLES:
                for second in SAMPLES:
                    arguments = (first, second)[:len(names)]
                    self.assert_keeps(error(*arguments), names, arguments)

    def test_each_keeps_its_arguments_by_name(self):
        for error, names in ARGUMENTS.items():
            for first in SAMPLES:
                arguments = (first, ["another"])[:len(names)]
                self.assert_keeps(error(**dict(zip(names, arguments))), names, arguments)

    def test_names_may_be_passed_in_any_order(self):
        wrong_tie = InvalidPuzzle(place=3, part="ties")
        self.assertEqual((wrong_tie.part, wrong_tie.place), ("ties", 3))
        wrong_text = InvalidText(at=5, text="cells")
        self.assertEqual((wrong_text.text, wrong_text.at), ("cells", 5))

    def test_the_order_by_place(self):
        wrong_tie = InvalidPuzzle("ties", 3)
        self.assertEqual((wrong_tie.part, wrong_tie.place), ("ties", 3))
        wrong_text = InvalidText("cells", 5)
        self.assertEqual((wrong_text.text, wrong_text.at), ("cells", 5))

    def test_an_error_keeps_a_list_itself(self):
        for error, names in ARGUMENTS.items():
            arguments = [[1], [2]][:len(names)]
            made = error(*arguments)
            for argument in arguments:
                argument.append("later")
            self.assert_keeps(made, names, arguments)
            self.assertEqual(getattr(made, names[0]), [1, "later"])

    def test_each_takes_just_its_arguments(self):
        for error, names in ARGUMENTS.items():
            for many in (0, 1, 2, 3):
                if many != len(names):
                    with self.assertRaises(TypeError):
                        error(*[0] * many)

    def test_each_stands_directly_under_cell_error(self):
        self.assertEqual(CellError.__bases__, (ValueError,))
        for error, _ in ARGUMENTS.items():
            self.assertEqual(error.__bases__, (CellError,))

    def test_each_is_a_cell_error_and_none_of_the_others(self):
        for error, names in ARGUMENTS.items():
            made = error(*[0] * len(names))
            self.assertIsInstance(made, CellError)
            self.assertIsInstance(made, ValueError)
            self.assertEqual([other for other in ARGUMENTS if isinstance(made, other)], [error])

    def test_each_is_caught_as_what_it_is(self):
        for error, names in ARGUMENTS.items():
            for caught in (error, CellError, ValueError):
                with self.assertRaises(caught) as told:
                    raise error(*["x"] * len(names))
                self.assertIs(type(told.exception), error)

    def test_each_can_be_shown(self):
        for error, names in ARGUMENTS.items():
            self.assertIsInstance(str(error(*["x"] * len(names))), str)


if __name__ == "__main__":
    unittest.main()
