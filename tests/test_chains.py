"""Point [16], with [1] and [2]: what is forced."""

import unittest

from eightcells.books import Book
from eightcells.chains import forced
from eightcells.errors import CellError, InvalidStart
from eightcells.puzzles import Puzzle
from eightcells.relations import Relation
from tests.judge import forced_in_rounds
from tests.samples import any_values, is_all_plain
from tests.worked_out import all_fillings, drawing, drawn_book, drawn_puzzle, drawn_start

NO = Relation(1, [(0,)])
YES = Relation(1, [(1,)])
UNLIKE = Relation(2, [(0, 1), (1, 0)])
RISING = Relation(2, [(0, 0), (0, 1), (1, 1)])
ONE_OF_THREE = Relation(3, [(0, 0, 1), (0, 1, 0), (1, 0, 0)])
BOOK = Book([NO, YES, UNLIKE, RISING, ONE_OF_THREE])
STEPS = Puzzle(BOOK, 5, [(3, (2, 3)), (3, (1, 2)), (3, (0, 1)), (1, (0,))])


def expected(puzzle, start):
    fixed, _, empty = forced_in_rounds(puzzle, dict(start))
    return None if empty is not None else tuple(sorted(fixed.items()))


class ForcedTest(unittest.TestCase):

    def test_one_after_another(self):
        self.assertEqual(forced(STEPS), ((0, 1), (1, 1), (2, 1), (3, 1)))
        self.assertEqual(forced(STEPS, ((4, 0),)), ((0, 1), (1, 1), (2, 1), (3, 1), (4, 0)))
        self.assertEqual(forced(STEPS.without(3)), ())
        self.assertEqual(forced(STEPS.without(3), ((1, 1),)), ((1, 1), (2, 1), (3, 1)))
        self.assertEqual(forced(STEPS.without(3), ((1, 0),)), ((0, 0), (1, 0)))
        self.assertEqual(forced(STEPS.without(1)), ((0, 1), (1, 1)))

    def test_several_cells_of_a_tie(self):
        puzzle = Puzzle(BOOK, 4, [(4, (3, 1, 0)), (2, (1, 2))])
        self.assertEqual(forced(puzzle), ())
        self.assertEqual(forced(puzzle, ((3, 1),)), ((0, 0), (1, 0), (2, 1), (3, 1)))
        self.assertEqual(forced(puzzle, ((3, 0),)), ((3, 0),))
        self.assertEqual(forced(puzzle, ((0, 0), (3, 0))), ((0, 0), (1, 1), (2, 0), (3, 0)))

    def test_a_tie_without_views(self):
        self.assertIsNone(forced(STEPS, ((0, 0),)))
        self.assertIsNone(forced(STEPS, ((3, 0),)))
        self.assertIsNone(forced(STEPS.with_tie((2, (4, 4)))))
        self.assertIsNone(forced(Puzzle(BOOK, 1, [(0, (0,)), (1, (0,))])))
        self.assertIsNone(forced(Puzzle(BOOK, 3, [(4, (0, 1, 2))]), ((0, 1), (2, 1))))
        self.assertIsNone(forced(Puzzle(BOOK, 3, [(4, (0, 0, 0))])))

    def test_a_cell_twice_in_a_tie(self):
        self.assertEqual(forced(Puzzle(BOOK, 2, [(4, (0, 0, 1))])), ((0, 0), (1, 1)))
        self.assertEqual(forced(Puzzle(BOOK, 2, [(3, (1, 1))])), ())
        self.assertEqual(forced(Puzzle(BOOK, 3, [(4, (2, 0, 2)), (2, (0, 1))])), ((0, 1), (1, 0), (2, 0)))

    def test_no_filling_but_nothing_forced(self):
        puzzle = Puzzle(BOOK, 3, [(2, (0, 1)), (2, (1, 2)), (2, (2, 0))])
        self.assertEqual(all_fillings(puzzle), ())
        self.assertEqual(forced(puzzle), ())
        self.assertIsNone(forced(puzzle, ((0, 0),)))

    def test_no_ties(self):
        self.assertEqual(forced(Puzzle(BOOK, 0, ())), ())
        self.assertEqual(forced(Puzzle(BOOK, 4, ())), ())
        self.assertEqual(forced(Puzzle(BOOK, 4, ()), ((0, 1), (3, 0))), ((0, 1), (3, 0)))

    def test_drawn_puzzles_in_each_order_of_ties(self):
        draw = drawing(161)
        seen = {"none": 0, "more": 0, "same": 0}
        for _ in range(400):
            cell_count = draw.randint(1, 8)
            puzzle = drawn_puzzle(draw, drawn_book(draw, 4, most=draw.choice((3, 8))), cell_count, draw.randint(0, 7))
            for start in ((), drawn_start(draw, cell_count)):
                found = forced(puzzle, start)
                self.assertEqual(found, expected(puzzle, start))
                self.assertTrue(found is None or is_all_plain(found))
                seen["none" if found is None else "same" if found == start else "more"] += 1
                for ties in (puzzle.ties[::-1], draw.sample(puzzle.ties, len(puzzle.ties)), puzzle.ties * 2):
                    self.assertEqual(forced(Puzzle(puzzle.book, cell_count, ties), start), found)
                for row in all_fillings(puzzle, start) if cell_count < 6 else ():
                    self.assertTrue(all(row[cell] == value for cell, value in found))
        self.assertGreater(min(seen.values()), 50)

    def test_forty_cells_and_two_hundred_ties(self):
        ties = [(3, (k, k + 1)) for k in range(38, -1, -1)]
        puzzle = Puzzle(BOOK, 40, ties + ties[::-1] * 4)
        self.assertEqual(forced(puzzle, ((0, 1),)), tuple((k, 1) for k in range(40)))
        self.assertEqual(forced(puzzle, ((39, 0),)), tuple((k, 0) for k in range(40)))
        self.assertIsNone(forced(puzzle, ((0, 1), (39, 0))))

    def test_arguments_by_name(self):
        self.assertEqual(forced(start=((4, 1),), puzzle=STEPS)[-1], (4, 1))
        self.assertEqual(forced(puzzle=STEPS), forced(STEPS, ()))

    def test_what_is_no_start(self):
        wrong = [value for value in any_values() if value not in ((), ((0, 1),))] + [
            [], [(0, 1)], ((5, 0),), ((-1, 0),), ((0, 2),), ((0, -1),), ((0, True),), ((False, 1),), ((0, None),),
            ((0, 1), (0, 1)), ((1, 0), (0, 0)), ([0, 1],), ((0, 1, 0),), ((0,),), ((0, 1), None)]
        for start in wrong:
            for puzzle in (STEPS, Puzzle(BOOK, 1, [(0, (0,)), (1, (0,))])):
                with self.assertRaises(CellError) as told:
                    forced(puzzle, start)
                self.assertIs(type(told.exception), InvalidStart)
                self.assertIs(told.exception.value, start)


if __name__ == "__main__":
    unittest.main()
