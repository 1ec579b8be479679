"""What several tests assert: which error is raised, and what is equal."""

import unittest

from eightcells.errors import CellError


class Case(unittest.TestCase):

    def assert_raises_with(self, error, name, value, call, *arguments, **named):
        """Just this error is raised, and keeps the very value under this name."""
        with self.assertRaises(CellError) as told:
            call(*arguments, **named)
        self.assertIs(type(told.exception), error)
        kept = getattr(told.exception, name)
        if isinstance(value, str):
            self.assertEqual(kept, value)
        else:
            self.assertIs(kept, value)

    def assert_equal_is(self, one, other, whether):
        self.assertIs(one == other, whether)
        self.assertIs(other == one, whether)
        self.assertIs(one != other, not whether)
