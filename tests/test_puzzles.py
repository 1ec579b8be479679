"""Point [7], with [1] and [2]: puzzles and their ties."""

import unittest

from eightcells.books import Book
from eightcells.errors import CellError, InvalidNumber, InvalidPuzzle
from eightcells.puzzles import Puzzle
from eightcells.relations import Relation
from tests.cases import Case
from tests.samples import any_values, is_all_plain, nested, no_sequences

UNLIKE = Relation(2, [(0, 1), (1, 0)])
ONE_OF_THREE = Relation(3, [(0, 0, 1), (0, 1, 0), (1, 0, 0)])
YES = Relation(1, [(1,)])
FOUR = Relation(4, [(0, 0, 1, 1), (1, 1, 1, 1)])
BOOK = Book([UNLIKE, ONE_OF_THREE, YES, FOUR])
TIES = ((0, (0, 1)), (1, (2, 3, 4)), (2, (4,)), (3, (0, 1, 2, 3)))


class MakingTest(unittest.TestCase):

    def assert_is(self, puzzle, book, cell_count, ties):
        self.assertIs(type(puzzle), Puzzle)
        self.assertEqual(puzzle.book, book)
        self.assertIs(type(puzzle.cell_count), int)
        self.assertEqual(puzzle.cell_count, cell_count)
        self.assertIs(type(puzzle.ties), tuple)
        self.assertTrue(is_all_plain(puzzle.ties))
        self.assertEqual(puzzle.ties, ties)

    def test_ties_in_a_list_and_in_a_tuple(self):
        for ties in ((), TIES[:1], TIES, TIES[::-1]):
            for passed in (ties, list(ties)):
                self.assert_is(Puzzle(BOOK, 5, passed), BOOK, 5, ties)

    def test_no_cells(self):
        for passed in ((), []):
            self.assert_is(Puzzle(BOOK, 0, passed), BOOK, 0, ())

    def test_a_tie_twice_and_a_cell_twice(self):
        ties = ((0, (0, 1)), (0, (0, 1)), (0, (1, 0)), (0, (2, 2)), (3, (1, 1, 0, 1)), (1, (2, 2, 2)))
        self.assert_is(Puzzle(BOOK, 3, list(ties)), BOOK, 3, ties)

    def test_each_size_and_six_relations(self):
        book = Book([YES, UNLIKE, ONE_OF_THREE, FOUR, YES, UNLIKE])
        ties = ((5, (39, 0)), (4, (39,)), (3, (36, 37, 38, 39)), (2, (1, 39, 2)), (0, (0,)))
        self.assert_is(Puzzle(book, 40, ties), book, 40, ties)

    def test_two_hundred_ties(self):
        ties = tuple((0, (k % 40, (k + 7) % 40)) for k in range(200))
        self.assert_is(Puzzle(BOOK, 40, ties), BOOK, 40, ties)

    def test_arguments_by_name(self):
        self.assert_is(Puzzle(ties=TIES, cell_count=5, book=BOOK), BOOK, 5, TIES)

    def test_a_list_changed_later_changes_nothing(self):
        ties = list(TIES)
        puzzle = Puzzle(BOOK, 5, ties)
        self.assertEqual(ties, list(TIES))
        ties.append((2, (0,)))
        ties[0] = None
        self.assert_is(puzzle, BOOK, 5, TIES)

    def test_it_is_not_iterable(self):
        with self.assertRaises(TypeError):
            iter(Puzzle(BOOK, 5, TIES))


class WrongPuzzleTest(unittest.TestCase):

    def assert_wrong(self, part, place, *arguments):
        with self.assertRaises(CellError) as told:
            Puzzle(*arguments)
        self.assertIs(type(told.exception), InvalidPuzzle)
        self.assertEqual((told.exception.part, told.exception.place), (part, place))
        self.assertIs(type(told.exception.place), int)

    def assert_wrong_tie(self, tie):
        self.assert_wrong("ties", 0, BOOK, 5, [tie])
        self.assert_wrong("ties", 0, BOOK, 5, (tie, None))
        self.assert_wrong("ties", 4, BOOK, 5, TIES + (tie,))
        self.assert_wrong("ties", 2, BOOK, 5, [TIES[3], TIES[0], tie, TIES[1], tie])

    def test_no_book(self):
        wrong = [thing for thing in any_values() if not isinstance(thing, Book)]
        for thing in wrong + [[BOOK], (BOOK,), YES, [YES], (YES, UNLIKE), Puzzle(BOOK, 0, ())]:
            self.assert_wrong("book", 0, thing, 5, TIES)
            self.assert_wrong("book", 0, thing, -1, None)

    def test_no_number_of_cells(self):
        wrong = [thing for thing in any_values() if type(thing) is not int]
        for thing in wrong + [-1, -2, -10 ** 5000, True, False, None, "5", (5,), [5], BOOK]:
            self.assert_wrong("cells", 0, BOOK, thing, ())
            self.assert_wrong("cells", 0, BOOK, thing, None)
            self.assert_wrong("cells", 0, BOOK, thing, [None])

    def test_ties_that_are_no_sequence(self):
        for thing in no_sequences() + [{0: TIES[0]}, iter(TIES)]:
            self.assert_wrong("ties", 0, BOOK, 5, thing)

    def test_what_is_no_pair(self):
        for thing in any_values():
            self.assert_wrong_tie(thing)
        for tie in ([0, (0, 1)], (0,), (0, (0, 1), 0), ((0, (0, 1)),), (0, 0, 1), ((0, 1), 0), ("0", (0, 1)), "01"):
            self.assert_wrong_tie(tie)

    def test_a_relation_that_is_none_of_the_book(self):
        for number in (4, 5, 10 ** 5000, -1, -4, True, False, None, "0", (0,), [0], UNLIKE):
            self.assert_wrong_tie((number, (0, 1)))
            self.assert_wrong_tie((number, (0,)))
            self.assert_wrong_tie((number, (0, 1, 2)))

    def test_the_number_of_cells_is_that_of_the_places(self):
        for number, size in ((0, 2), (1, 3), (2, 1), (3, 4)):
            for many in range(7):
                if many != size:
                    self.assert_wrong_tie((number, (0, 1, 2, 3, 4, 0)[:many]))

    def test_a_cell_that_is_none(self):
        for cell in (5, 6, 10 ** 5000, -1, -5, True, False, None, "0", (0,), [0], BOOK):
            self.assert_wrong_tie((0, (cell, 1)))
            self.assert_wrong_tie((0, (1, cell)))
            self.assert_wrong_tie((2, (cell,)))
            self.assert_wrong_tie((3, (0, 1, 2, cell)))

    def test_cells_that_are_no_tuple(self):
        for cells in ([0, 1], "01", 0, None, {0: 0, 1: 1}, ([0, 1],), [(0, 1)], BOOK, nested(30, tuple, 0)):
            self.assert_wrong_tie((0, cells))

    def test_no_tie_where_there_are_no_cells(self):
        self.assert_wrong("ties", 0, BOOK, 0, [(2, (0,))])
        self.assert_wrong("ties", 1, BOOK, 1, [(2, (0,)), (0, (0, 1))])

    def test_a_call_that_raises_changes_no_argument(self):
        ties = [TIES[0], [0, (0, 1)]]
        self.assert_wrong("ties", 1, BOOK, 5, ties)
        self.assertEqual(ties, [TIES[0], [0, (0, 1)]])


class EqualTest(Case):

    def test_equal_book_cells_and_ties(self):
        book = Book([Relation(2, [(1, 0), (0, 1)]), ONE_OF_THREE, YES, FOUR])
        self.assert_equal_is(Puzzle(BOOK, 5, TIES), Puzzle(book, 5, list(TIES)), True)
        self.assert_equal_is(Puzzle(BOOK, 0, ()), Puzzle(book, 0, []), True)

    def test_each_of_the_three_counts(self):
        puzzle = Puzzle(BOOK, 5, TIES)
        more = Book([UNLIKE, ONE_OF_THREE, YES, FOUR, YES])
        for other in (Puzzle(more, 5, TIES), Puzzle(BOOK, 6, TIES), Puzzle(BOOK, 5, TIES[:3]),
                      Puzzle(BOOK, 5, TIES[::-1]),
                      Puzzle(BOOK, 5, TIES + TIES[:1]), Puzzle(BOOK, 5, ((0, (1, 0)),) + TIES[1:])):
            self.assert_equal_is(puzzle, other, False)

    def test_another_kind_of_thing(self):
        puzzle = Puzzle(BOOK, 5, TIES)
        for thing in any_values() + [BOOK, TIES, (BOOK, 5, TIES), [puzzle], (puzzle,), None, 5]:
            if not isinstance(thing, Puzzle):
                self.assert_equal_is(puzzle, thing, False)


class WithAndWithoutTest(unittest.TestCase):

    def setUp(self):
        self.puzzle = Puzzle(BOOK, 5, TIES)

    def tearDown(self):
        self.assertEqual((self.puzzle.book, self.puzzle.cell_count, self.puzzle.ties), (BOOK, 5, TIES))

    def assert_raises_with(self, error, told_of, call, *arguments):
        with self.assertRaises(CellError) as told:
            call(*arguments)
        self.assertIs(type(told.exception), error)
        for name, value in told_of.items():
            kept = getattr(told.exception, name)
            self.assertEqual(kept, value)
            self.assertIs(type(kept), type(value))

    def test_with_a_tie_behind_the_others(self):
        for tie in ((0, (3, 1)), (2, (0,)), TIES[0], (1, (4, 4, 4))):
            made = self.puzzle.with_tie(tie)
            self.assertEqual(made, Puzzle(BOOK, 5, TIES + (tie,)))
            self.assertIs(type(made.ties), tuple)
            self.assertEqual(made.ties[4], tie)
        self.assertEqual(Puzzle(BOOK, 2, ()).with_tie(tie=(2, (1,))), Puzzle(BOOK, 2, [(2, (1,))]))

    def test_with_what_is_no_tie(self):
        empty = Puzzle(BOOK, 0, [])
        for tie in any_values() + [[0, (0, 1)], (0, [0, 1]), (0, (0, 5)), (4, (0, 1)), (True, (0, 1, 2)),
                                   (0, (0, True)),
                                   (0, (0,)), (0, (-1, 0)), (0, (0, 1), 2)]:
            self.assert_raises_with(InvalidPuzzle, {"part": "ties", "place": 4}, self.puzzle.with_tie, tie)
            self.assert_raises_with(InvalidPuzzle, {"part": "ties", "place": 0}, empty.with_tie, tie)

    def test_without_a_tie(self):
        for t in range(4):
            self.assertEqual(self.puzzle.without(t), Puzzle(BOOK, 5, TIES[:t] + TIES[t + 1:]))
        self.assertEqual(self.puzzle.without(t=3).without(0).ties, (TIES[1], TIES[2]))
        twice = Puzzle(BOOK, 2, [(0, (0, 1)), (2, (0,)), (0, (0, 1))])
        self.assertEqual(twice.without(0).ties, ((2, (0,)), (0, (0, 1))))
        self.assertEqual(twice.without(2).ties, ((0, (0, 1)), (2, (0,))))

    def test_without_what_is_no_number_of_a_tie(self):
        for t in [4, 5, -1, -4, True, False, None, "0", (0,), [0], (), 10 ** 5000, TIES[0], BOOK]:
            self.assert_raises_with(InvalidNumber, {"value": t}, self.puzzle.without, t)
        for t in any_values():
            self.assert_raises_with(InvalidNumber, {"value": t}, Puzzle(BOOK, 5, ()).without, t)

    def test_one_after_the_other(self):
        made = self.puzzle
        for t in range(4):
            made = made.with_tie(TIES[3 - t]).without(0)
        self.assertEqual(made.ties, TIES[::-1])


if __name__ == "__main__":
    unittest.main()
