"""Point [8], with [1] and [2]: fillings, starts and views."""

import unittest
from itertools import permutations

from eightcells.books import Book
from eightcells.errors import InvalidNumber, InvalidStart
from eightcells.puzzles import Puzzle, fillings, is_filling, is_start, views
from eightcells.relations import Relation
from tests.cases import Case
from tests.samples import any_values, is_all_plain, nested
from tests.worked_out import (
    all_fillings, all_rows, all_views, drawing, drawn_book, drawn_puzzle, drawn_start, fits)

UNLIKE = Relation(2, [(0, 1), (1, 0)])
RISING = Relation(2, [(0, 0), (0, 1), (1, 1)])
ONE_OF_THREE = Relation(3, [(0, 0, 1), (0, 1, 0), (1, 0, 0)])
BOOK = Book([UNLIKE, ONE_OF_THREE, RISING])
PUZZLE = Puzzle(BOOK, 4, [(0, (0, 1)), (1, (1, 2, 3)), (2, (2, 2))])
WRONG_STARTS = [
    [], [(0, 1)], [[0, 1]], ([0, 1],), ((0,),), ((0, 1, 0),), (0, 1), ((0, 1), 1), (((0, 1),),), ((0, 2),), ((0, -1),),
    ((0, True),), ((0, False),), ((True, 1),), ((False, 1),), ((0, None),), ((None, 0),), (("0", 1),), ((0, "1"),),
    ((0, (1,)),), (((0,), 1),), ((4, 0),), ((10 ** 5000, 0),), ((-1, 0),), ((-4, 0),), ((0, 1), (0, 1)),
    ((0, 0), (0, 1)),
    ((1, 0), (0, 0)), ((0, 0), (2, 1), (1, 1)), ((0, 0), (1, 1), (2, 0), (2, 0)), ((0, 0), (1, 1), (2, 2)),
    ((0, 0), (1, 1), [2, 0]), ((0, 0), (1, 1), (4, 0)), {0: 1}, ((0, 1), None), ((0, 0), ())]


def wrong_starts():
    return WRONG_STARTS + [value for value in any_values() if value not in ((), ((0, 1),))]


class IsFillingTest(unittest.TestCase):

    def test_each_row(self):
        for row in all_rows(4):
            self.assertIs(is_filling(PUZZLE, row), row in ((0, 1, 0, 0), (1, 0, 0, 1), (1, 0, 1, 0)))

    def test_each_row_of_drawn_puzzles(self):
        draw = drawing(81)
        for _ in range(100):
            cell_count = draw.randint(1, 5)
            puzzle = drawn_puzzle(draw, drawn_book(draw), cell_count, draw.randint(0, 4))
            for row in all_rows(cell_count):
                self.assertIs(is_filling(puzzle, row), fits(puzzle, row))

    def test_another_number_of_values(self):
        free = Puzzle(BOOK, 4, ())
        for many in range(8):
            self.assertIs(is_filling(free, (0,) * many), many == 4)
            self.assertIs(is_filling(free, (1,) * many), many == 4)

    def test_no_cells(self):
        self.assertIs(is_filling(Puzzle(BOOK, 0, ()), ()), True)
        for value in any_values():
            if value != ():
                self.assertIs(is_filling(Puzzle(BOOK, 0, ()), value), False)

    def test_any_value_at_all(self):
        good = (0, 1, 0, 0)
        for puzzle in (PUZZLE, Puzzle(BOOK, 4, ()), Puzzle(BOOK, 1, ()), Puzzle(BOOK, 2, ())):
            for value in any_values() + [list(good), (good,), [good], "0100", (False, True, False, False),
                                         (0, 1, 0, False),
                                         (0, 1, 0, None), (0, 1, 0, 2), (0, 1, 0, -1), (0, 1, 0, "0"), (0, 1, 0, (0,)),
                                         (0, 1, 0, [0]), (0, (1, 0), 0), (0, 10 ** 5000, 0, 0),
                                         nested(30, tuple, good)]:
                self.assertIs(is_filling(puzzle, value), False)

    def test_arguments_by_name(self):
        self.assertIs(is_filling(value=(0, 1, 0, 0), puzzle=PUZZLE), True)


class IsStartTest(unittest.TestCase):

    def test_starts(self):
        for value in ((), ((0, 0),), ((3, 1),), ((0, 1), (1, 1)), ((0, 0), (3, 0)), ((0, 0), (1, 1), (2, 0), (3, 1))):
            self.assertIs(is_start(PUZZLE, value), True)
            self.assertIs(is_start(Puzzle(BOOK, 4, ()), value), True)

    def test_what_is_none(self):
        for value in wrong_starts():
            self.assertIs(is_start(PUZZLE, value), False)

    def test_each_order_of_cells(self):
        for cells in permutations(range(4), 3):
            self.assertIs(is_start(PUZZLE, tuple((cell, 1) for cell in cells)), list(cells) == sorted(cells))

    def test_no_cells(self):
        self.assertIs(is_start(Puzzle(BOOK, 0, ()), ()), True)
        self.assertIs(is_start(Puzzle(BOOK, 0, ()), ((0, 0),)), False)

    def test_arguments_by_name(self):
        self.assertIs(is_start(value=((0, 1),), puzzle=PUZZLE), True)


class FillingsTest(Case):

    def assert_fillings(self, puzzle, start=()):
        found = fillings(puzzle, start)
        self.assertTrue(is_all_plain(found))
        self.assertEqual(found, all_fillings(puzzle, start))

    def test_worked_out_by_hand(self):
        self.assertEqual(fillings(PUZZLE), ((0, 1, 0, 0), (1, 0, 0, 1), (1, 0, 1, 0)))
        self.assertEqual(fillings(PUZZLE, ((0, 1),)), ((1, 0, 0, 1), (1, 0, 1, 0)))
        self.assertEqual(fillings(PUZZLE, ((0, 1), (3, 1))), ((1, 0, 0, 1),))
        self.assertEqual(fillings(PUZZLE, ((0, 0), (3, 1))), ())
        self.assertEqual(fillings(Puzzle(BOOK, 2, [(0, (0, 0))])), ())
        self.assertEqual(fillings(Puzzle(BOOK, 2, [(1, (1, 1, 0))])), ((1, 0),))

    def test_no_cells_and_no_ties(self):
        self.assertEqual(fillings(Puzzle(BOOK, 0, ())), ((),))
        self.assertEqual(fillings(Puzzle(BOOK, 1, ())), ((0,), (1,)))
        self.assertEqual(fillings(Puzzle(BOOK, 3, ())), tuple(all_rows(3)))
        self.assertEqual(fillings(Puzzle(BOOK, 3, ()), ((1, 1),)), ((0, 1, 0), (0, 1, 1), (1, 1, 0), (1, 1, 1)))

    def test_drawn_puzzles(self):
        draw = drawing(82)
        for _ in range(400):
            cell_count = draw.randint(1, 7)
            book = drawn_book(draw, 6, least=draw.choice((1, 2, 5, 12)))
            puzzle = drawn_puzzle(draw, book, cell_count, draw.randint(0, 8))
            self.assert_fillings(puzzle)
            self.assert_fillings(puzzle, drawn_start(draw, cell_count))

    def test_twelve_cells(self):
        draw = drawing(83)
        for _ in range(5):
            puzzle = drawn_puzzle(draw, drawn_book(draw, least=6), 12, draw.randint(2, 10))
            self.assert_fillings(puzzle)
            self.assert_fillings(puzzle, drawn_start(draw, 12))

    def test_twelve_cells_and_two_hundred_ties(self):
        draw = drawing(84)
        any_row = Relation(4, all_rows(4))
        even = Relation(4, [row for row in all_rows(4) if sum(row) % 2 == 0])
        some_yes = Relation(4, all_rows(4)[1:])
        for book in (Book([any_row]), Book([even, any_row]), Book([some_yes]), Book([RISING, any_row])):
            self.assert_fillings(drawn_puzzle(draw, book, 12, 200))
        self.assertEqual(len(fillings(Puzzle(Book([any_row]), 12, [(0, (0, 1, 2, 3))] * 200))), 4096)
        self.assertEqual(len(fillings(Puzzle(BOOK, 12, [(2, (k % 11, k % 11 + 1)) for k in range(200)]))), 13)

    def test_the_start_by_place_and_by_name(self):
        start = ((1, 0),)
        self.assertEqual(fillings(PUZZLE, start), fillings(start=start, puzzle=PUZZLE))
        self.assertEqual(fillings(PUZZLE, start=()), fillings(puzzle=PUZZLE))
        self.assertNotEqual(fillings(PUZZLE, start), fillings(PUZZLE))

    def test_what_is_no_start(self):
        for start in wrong_starts():
            self.assert_raises_with(InvalidStart, "value", start, fillings, PUZZLE, start)
            self.assert_raises_with(InvalidStart, "value", start, fillings, PUZZLE, start=start)


class ViewsTest(Case):

    def test_worked_out_by_hand(self):
        self.assertEqual(views(PUZZLE, 0), ((0, 1), (1, 0)))
        self.assertEqual(views(PUZZLE, 1), ((0, 0, 1), (0, 1, 0), (1, 0, 0)))
        self.assertEqual(views(PUZZLE, 2), ((0, 0), (1, 1)))
        self.assertEqual(views(PUZZLE, 1, ((0, 1), (2, 0))), ((0, 0, 1), (1, 0, 0)))
        self.assertEqual(views(PUZZLE, 1, ((1, 1), (2, 1))), ())
        self.assertEqual(views(PUZZLE, 2, ((2, 1),)), ((1, 1),))

    def test_a_cell_twice_in_the_tie(self):
        puzzle = Puzzle(BOOK, 2, [(0, (1, 1)), (1, (0, 0, 1)), (1, (0, 1, 0)), (1, (1, 1, 1))])
        self.assertEqual([views(puzzle, t) for t in range(4)], [(), ((0, 0, 1),), ((0, 1, 0),), ()])
        self.assertEqual(views(puzzle, 1, ((0, 0),)), ((0, 0, 1),))
        self.assertEqual(views(puzzle, 1, ((1, 0),)), ())

    def test_drawn_puzzles(self):
        draw = drawing(85)
        for _ in range(300):
            cell_count = draw.randint(1, 5)
            puzzle = drawn_puzzle(draw, drawn_book(draw), cell_count, draw.randint(1, 5))
            start = drawn_start(draw, cell_count)
            for t in range(len(puzzle.ties)):
                for passed in ((), start):
                    found = views(puzzle, t, passed)
                    self.assertTrue(is_all_plain(found))
                    self.assertEqual(found, all_views(puzzle, t, passed))

    def test_arguments_by_name(self):
        self.assertEqual(views(start=((1, 1),), t=1, puzzle=PUZZLE), ((1, 0, 0),))

    def test_what_is_no_number_of_a_tie(self):
        wrong = [thing for thing in any_values() if type(thing) is not int]
        for t in wrong + [3, 4, -1, -3, True, False, 10 ** 5000, "0"]:
            self.assert_raises_with(InvalidNumber, "value", t, views, PUZZLE, t)
            self.assert_raises_with(InvalidNumber, "value", t, views, PUZZLE, t, ((0, 1),))
            self.assert_raises_with(InvalidNumber, "value", t, views, PUZZLE, t, [None])
        self.assert_raises_with(InvalidNumber, "value", 0, views, Puzzle(BOOK, 4, ()), 0)

    def test_what_is_no_start(self):
        for start in wrong_starts():
            self.assert_raises_with(InvalidStart, "value", start, views, PUZZLE, 0, start)
            self.assert_raises_with(InvalidStart, "value", start, views, PUZZLE, t=2, start=start)


class SameAnswerTest(unittest.TestCase):

    def test_equal_calls_return_equal_results(self):
        for call in (lambda: fillings(PUZZLE, ((0, 1),)), lambda: views(PUZZLE, 1), lambda: is_start(PUZZLE, ()),
                     lambda: is_filling(PUZZLE, (0, 1, 0, 0))):
            self.assertEqual(call(), call())


if __name__ == "__main__":
    unittest.main()
