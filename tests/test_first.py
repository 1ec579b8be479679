"""Point [18], with [1] and [2]: the first filling by wishes, its papers, and what is judged of them."""

import unittest

from eightcells.books import Book
from eightcells.errors import InvalidFilling, InvalidStart, Undefined
from eightcells.filling import first_by, first_holds, first_paper
from eightcells.puzzles import Puzzle
from eightcells.relations import Relation
from tests.cases import Case
from tests.drawn import ONE_OF_THREE, drawn_cases, hard_cases
from tests.judge import shows
from tests.refusals import assert_refuses, put_in
from tests.samples import any_values, is_all_plain, spoilt
from tests.test_filling import NO_STARTS
from tests.worked_out import all_fillings, all_rows, drawing, first_of, fits

UNLIKE = Relation(2, [(0, 1), (1, 0)])
RISING = Relation(2, [(0, 0), (0, 1), (1, 1)])
NO = Relation(1, [(0,)])
YES = Relation(1, [(1,)])


def starts_refused(wishes, start, row):
    """For each cell that is not fixed and has not its wish, in order, the start with what the point puts in."""
    fixed = [cell for cell, _ in start]
    free = [cell for cell in range(len(row)) if cell not in fixed]
    return [put_in(start, *[(ahead, row[ahead]) for ahead in free if ahead < cell], (cell, wishes[cell]))
            for cell in free if row[cell] != wishes[cell]]


def shows_first(puzzle, wishes, start, claim, paper):
    """Whether the claim and the paper are such ones, by the words of the point."""
    if not is_all_plain(claim) or type(claim) is not tuple or len(claim) != puzzle.cell_count:
        return False
    if not all(value in (0, 1) for value in claim) or not fits(puzzle, claim, start):
        return False
    starts = starts_refused(wishes, start, claim)
    if type(paper) is not tuple or len(paper) != len(starts):
        return False
    return all(shows(puzzle, dict(more), part) for more, part in zip(starts, paper))


class FirstTest(Case):

    def assert_first(self, puzzle, wishes, start, words):
        """Answers how many wishes are refused, or None if there is no filling."""
        rows = all_fillings(puzzle, start)
        if not rows:
            self.assert_raises_with(Undefined, "what", "filling", first_by, puzzle, wishes, start)
            self.assert_raises_with(Undefined, "what", "filling", first_paper, puzzle, wishes, start)
            return None
        row = first_by(puzzle, wishes, start)
        self.assertTrue(is_all_plain(row))
        self.assertEqual(row, first_of(list(rows), wishes))
        paper = first_paper(puzzle, wishes, start)
        starts = starts_refused(wishes, start, row)
        self.assertIs(type(paper), tuple)
        self.assertEqual(len(paper), len(starts))
        for more, part in zip(starts, paper):
            assert_refuses(self, puzzle, more, part, words)
        self.assertIs(first_holds(puzzle, wishes, start, row, paper), True)
        self.assertEqual(first_paper(puzzle, wishes, start), paper)
        if not starts:
            self.assertEqual(paper, ())
        return len(starts)

    def test_worked_out_by_hand(self):
        puzzle = Puzzle(Book([UNLIKE, RISING]), 4, [(0, (0, 1)), (1, (1, 2))])
        self.assertEqual(first_by(puzzle, (1, 1, 1, 1)), (1, 0, 1, 1))
        self.assertEqual(first_by(puzzle, (0, 0, 0, 0)), (0, 1, 1, 0))
        self.assertEqual(first_by(puzzle, (0, 0, 0, 0), ((2, 0),)), (1, 0, 0, 0))
        self.assertEqual(first_by(puzzle, (0, 1, 0, 0), ((0, 1), (3, 1))), (1, 0, 0, 1))
        self.assertEqual(first_paper(puzzle, (1, 0, 1, 1)), ())
        self.assertEqual(first_paper(puzzle, (0, 0, 1, 0), ((0, 1), (3, 1))), ())
        self.assertEqual(self.assert_first(puzzle, (0, 0, 0, 0), (), ("majority",)), 2)
        self.assertEqual(self.assert_first(puzzle, (0, 0, 0, 0), ((2, 0),), ("majority",)), 1)

    def test_what_is_chosen_ahead_counts(self):
        # The wish of cell 2 is refused by what cells 0 and 1 got, not by the start.
        puzzle = Puzzle(Book([ONE_OF_THREE]), 3, [(0, (0, 1, 2))])
        self.assertEqual(first_by(puzzle, (0, 1, 1)), (0, 1, 0))
        self.assertEqual(first_by(puzzle, (1, 1, 1)), (1, 0, 0))
        self.assertEqual(first_by(puzzle, (0, 0, 0)), (0, 0, 1))
        self.assertEqual(self.assert_first(puzzle, (0, 0, 0), (), ()), 1)
        self.assertEqual(self.assert_first(puzzle, (1, 1, 1), (), ()), 2)

    def assert_cases(self, cases, least):
        draw = drawing(181)
        refused = 0
        for puzzle, start, words in cases:
            for _ in range(3):
                wishes = tuple(draw.randint(0, 1) for _ in range(puzzle.cell_count))
                refused += self.assert_first(puzzle, wishes, start, words) or 0
        self.assertGreater(refused, least)

    def test_drawn_puzzles(self):
        self.assert_cases(drawn_cases(182, 35), 150)

    def test_hard_puzzles(self):
        self.assert_cases(hard_cases(183, 30), 60)

    def test_no_cells_and_no_ties(self):
        self.assertEqual(self.assert_first(Puzzle(Book([UNLIKE]), 0, ()), (), (), ("majority",)), 0)
        self.assertEqual(first_by(Puzzle(Book([UNLIKE]), 3, ()), (0, 1, 0), ((1, 0), (2, 1))), (0, 0, 1))

    def test_arguments_by_name(self):
        puzzle = Puzzle(Book([UNLIKE]), 2, [(0, (0, 1))])
        self.assertEqual(first_by(start=((1, 1),), wishes=(1, 1), puzzle=puzzle), (0, 1))
        paper = first_paper(start=(), wishes=(1, 1), puzzle=puzzle)
        self.assertIs(first_holds(paper=paper, claim=(1, 0), start=(), wishes=(1, 1), puzzle=puzzle), True)


class FirstHoldsTest(Case):

    def assert_judged(self, puzzle, wishes, start, claim, paper):
        whether = shows_first(puzzle, wishes, start, claim, paper)
        self.assertIs(first_holds(puzzle, wishes, start, claim, paper), whether)
        return whether

    def test_other_fillings_and_papers_spoilt(self):
        draw = drawing(184)
        tried = 0
        for puzzle, start, _ in list(drawn_cases(185, 8, 4)) + list(hard_cases(186, 8)):
            wishes = tuple(draw.randint(0, 1) for _ in range(puzzle.cell_count))
            if not all_fillings(puzzle, start):
                continue
            claim, paper = first_by(puzzle, wishes, start), first_paper(puzzle, wishes, start)
            for row in all_rows(puzzle.cell_count):
                held = self.assert_judged(puzzle, wishes, start, row, paper)
                self.assertTrue(not held or row == claim)
            for other in spoilt(claim):
                self.assert_judged(puzzle, wishes, start, other, paper)
            worse = list(spoilt(paper))
            for other in draw.sample(worse, min(150, len(worse))):
                tried += not self.assert_judged(puzzle, wishes, start, claim, other)
        self.assertGreater(tried, 1000)

    def test_papers_left_out_put_in_and_exchanged(self):
        puzzle = Puzzle(Book([UNLIKE, RISING]), 4, [(0, (0, 1)), (1, (1, 2)), (1, (2, 3))])
        wishes, claim = (0, 0, 0, 0), (0, 1, 1, 1)
        paper = first_paper(puzzle, wishes)
        self.assertEqual(len(paper), 3)
        self.assertIs(first_holds(puzzle, wishes, (), claim, paper), True)
        for k in range(3):
            self.assertIs(first_holds(puzzle, wishes, (), claim, paper[:k] + paper[k + 1:]), False)
        for other in (paper + paper[2:], paper[::-1], list(paper), (), paper[:1] * 3, (paper,), None):
            self.assert_judged(puzzle, wishes, (), claim, other)
        self.assertIs(first_holds(puzzle, wishes, (), claim, paper + paper[2:]), False)
        self.assertIs(first_holds(puzzle, wishes, (), claim, list(paper)), False)
        self.assertIs(first_holds(puzzle, wishes, (), (0, 1, True, 1), paper), False)
        self.assertIs(first_holds(puzzle, wishes, (), [0, 1, 1, 1], paper), False)
        self.assertIs(first_holds(puzzle, (0, 1, 1, 1), (), (0, 1, 1, 1), ()), True)
        # Another filling, which papers of no tie can show to be first.
        self.assertIs(first_holds(puzzle, wishes, (), (1, 0, 0, 0), ()), False)
        self.assertIs(first_holds(puzzle, wishes, ((0, 1),), (1, 0, 0, 0), ()), True)
        self.assertIs(first_holds(puzzle, wishes, ((0, 1),), claim, paper), False)

    def test_any_value_at_all(self):
        puzzle = Puzzle(Book([UNLIKE]), 2, [(0, (0, 1))])
        paper = first_paper(puzzle, (1, 1))
        self.assertIs(first_holds(puzzle, (1, 1), (), (1, 0), paper), True)
        for value in any_values():
            self.assertIs(first_holds(puzzle, (1, 1), (), value, paper), False)
            self.assertIs(first_holds(puzzle, (1, 1), (), (1, 0), value), False)
            self.assertIs(first_holds(puzzle, (1, 1), (), (1, 0), (value,)), False)
            self.assertIs(first_holds(puzzle, (1, 1), (), value, value), False)


class ErrorsTest(Case):

    def test_what_are_no_wishes_and_what_is_no_start(self):
        none = Puzzle(Book([NO, YES]), 3, [(0, (0,)), (1, (0,))])
        some = Puzzle(Book([UNLIKE]), 3, ())
        wrong = [value for value in any_values() if value != (0, 1)] + [
            (), (0,), (0, 1), (0, 1, 0, 1), (0, 1, 2), (0, 1, -1), (0, True, 1), (False, 0, 1), (0, None, 1),
            (0, "1", 1), [0, 1, 0], ((0, 1, 0),), (0, 1, (0,))]
        for puzzle in (none, some):
            for wishes in wrong:
                for start in ((), ((0, 1),), ((3, 1),), None):
                    for call in (first_by, first_paper):
                        self.assert_raises_with(InvalidFilling, "value", wishes, call, puzzle, wishes, start)
                    self.assert_raises_with(
                        InvalidFilling, "value", wishes, first_holds, puzzle, wishes, start, (0, 0, 0), ())
            for start in NO_STARTS:
                for call in (first_by, first_paper):
                    self.assert_raises_with(InvalidStart, "value", start, call, puzzle, (0, 1, 0), start)
                self.assert_raises_with(
                    InvalidStart, "value", start, first_holds, puzzle, (0, 1, 0), start, (0, 1, 0), ())

    def test_where_there_is_no_filling(self):
        none = Puzzle(Book([NO, YES]), 3, [(0, (0,)), (1, (0,))])
        for call in (first_by, first_paper):
            self.assert_raises_with(Undefined, "what", "filling", call, none, (0, 0, 0))
        self.assertIs(first_holds(none, (0, 0, 0), (), (0, 0, 0), ()), False)
        self.assertIs(first_holds(none, (0, 0, 0), (), None, None), False)


if __name__ == "__main__":
    unittest.main()
