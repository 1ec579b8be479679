"""Point [19], with [1] and [2]: what is so in all fillings, its papers, and how many fillings there are."""

import unittest

from eightcells.books import Book
from eightcells.errors import InvalidStart, Undefined
from eightcells.fixed import count, fixed_cells, fixed_holds, fixed_paper
from eightcells.puzzles import Puzzle
from eightcells.relations import Relation
from tests.cases import Case
from tests.drawn import ONE_OF_THREE, drawn_cases, hard_cases
from tests.judge import shows
from tests.refusals import assert_refuses, put_in
from tests.samples import any_values, is_all_plain, spoilt
from tests.test_filling import NO_STARTS
from tests.worked_out import all_fillings, drawing, fits, same_in_all

UNLIKE = Relation(2, [(0, 1), (1, 0)])
RISING = Relation(2, [(0, 0), (0, 1), (1, 1)])
ONE_OR_BOTH = Relation(2, [(0, 1), (1, 0), (1, 1)])
EVEN = Relation(4, [(0, 0, 0, 0), (0, 0, 1, 1), (0, 1, 0, 1), (0, 1, 1, 0),
                    (1, 0, 0, 1), (1, 0, 1, 0), (1, 1, 0, 0), (1, 1, 1, 1)])
NO = Relation(1, [(0,)])
YES = Relation(1, [(1,)])


def starts_refused(start, pairs):
    return [put_in(start, (cell, 1 - value)) for cell, value in pairs if (cell, value) not in start]


def is_start_with(puzzle, start, thing):
    if type(thing) is not tuple or not is_all_plain(thing):
        return False
    if not all(type(pair) is tuple and len(pair) == 2 and type(pair[0]) is int and pair[1] in (0, 1) for pair in thing):
        return False
    cells = [cell for cell, _ in thing]
    return (cells == sorted(set(cells)) and all(0 <= cell < puzzle.cell_count for cell in cells)
            and all(pair in thing for pair in start))


def shows_fixed(puzzle, start, claim, paper):
    """Whether the claim and the paper are such ones, by the words of the point."""
    if not is_start_with(puzzle, start, claim) or type(paper) is not tuple or len(paper) != 2:
        return False
    papers, found = paper
    starts = starts_refused(start, claim)
    if type(papers) is not tuple or len(papers) != len(starts):
        return False
    if not all(shows(puzzle, dict(more), part) for more, part in zip(starts, papers)):
        return False
    if type(found) is not tuple or found == () or not is_all_plain(found):
        return False
    if not all(type(row) is tuple and len(row) == puzzle.cell_count and set(row) <= {0, 1} for row in found):
        return False
    told = dict(claim)
    return all(fits(puzzle, row, start) for row in found) and all(
        {row[cell] for row in found} == {0, 1} for cell in range(puzzle.cell_count) if cell not in told)


class FixedTest(Case):

    def assert_fixed(self, puzzle, start, words):
        """Answers how many pairs are fixed beyond the start, or None if there is no filling."""
        rows = all_fillings(puzzle, start)
        if not rows:
            self.assert_raises_with(Undefined, "what", "filling", fixed_cells, puzzle, start)
            self.assert_raises_with(Undefined, "what", "filling", fixed_paper, puzzle, start)
            return None
        pairs = fixed_cells(puzzle, start)
        self.assertTrue(is_all_plain(pairs))
        self.assertEqual(pairs, same_in_all(rows))
        paper = fixed_paper(puzzle, start)
        self.assertTrue(is_all_plain(paper))
        self.assertTrue(shows_fixed(puzzle, start, pairs, paper))
        starts = starts_refused(start, pairs)
        for more, part in zip(starts, paper[0]):
            assert_refuses(self, puzzle, more, part, words)
        self.assertIs(fixed_holds(puzzle, start, pairs, paper), True)
        self.assertEqual(fixed_paper(puzzle, start), paper)
        return len(starts)

    def test_worked_out_by_hand(self):
        puzzle = Puzzle(Book([RISING, UNLIKE, YES]), 5, [(0, (0, 1)), (0, (1, 2)), (1, (2, 3)), (2, (1,))])
        self.assertEqual(fixed_cells(puzzle), ((1, 1), (2, 1), (3, 0)))
        self.assertEqual(fixed_cells(puzzle, ((0, 1), (4, 0))), ((0, 1), (1, 1), (2, 1), (3, 0), (4, 0)))
        self.assertEqual(fixed_cells(puzzle.without(3)), ())
        self.assertEqual(fixed_cells(puzzle.without(3), ((3, 1),)), ((0, 0), (1, 0), (2, 0), (3, 1)))
        self.assertEqual(self.assert_fixed(puzzle, (), ("majority",)), 3)
        self.assertEqual(self.assert_fixed(puzzle, ((0, 1), (4, 0)), ("majority",)), 3)

    def test_what_no_single_tie_forces(self):
        # If cell 0 were yes, cell 1 would be both.
        puzzle = Puzzle(Book([RISING, ONE_OR_BOTH.opposite()]), 3, [(0, (0, 1)), (1, (0, 1))])
        self.assertEqual(fixed_cells(puzzle), ((0, 0),))
        self.assertEqual(self.assert_fixed(puzzle, (), ("and", "majority")), 1)
        puzzle = Puzzle(Book([EVEN]), 5, [(0, (0, 1, 2, 3)), (0, (0, 1, 2, 4))])
        self.assertEqual(fixed_cells(puzzle, ((3, 1),)), ((3, 1), (4, 1)))

    def test_drawn_puzzles(self):
        found = [self.assert_fixed(*case) for case in drawn_cases(191, 60)]
        self.assertGreater(sum(many or 0 for many in found), 150)
        self.assertGreater(found.count(None), 30)
        self.assertGreater(found.count(0), 30)

    def test_hard_puzzles(self):
        found = [self.assert_fixed(*case) for case in hard_cases(192, 60)]
        self.assertGreater(sum(many or 0 for many in found), 30)

    def test_no_cells_and_no_ties(self):
        empty = Puzzle(Book([UNLIKE]), 0, ())
        self.assertEqual((fixed_cells(empty), fixed_paper(empty)), ((), ((), ((),))))
        self.assertIs(fixed_holds(empty, (), (), ((), ((), ()))), True)
        self.assertIs(fixed_holds(empty, (), (), ((), ())), False)
        self.assertEqual(self.assert_fixed(Puzzle(Book([EVEN]), 4, ()), ((1, 0), (3, 1)), ("odd one",)), 0)

    def test_arguments_by_name(self):
        puzzle = Puzzle(Book([UNLIKE]), 2, [(0, (0, 1))])
        self.assertEqual(fixed_cells(start=((1, 1),), puzzle=puzzle), ((0, 0), (1, 1)))
        paper = fixed_paper(start=((1, 1),), puzzle=puzzle)
        self.assertIs(fixed_holds(paper=paper, claim=((0, 0), (1, 1)), start=((1, 1),), puzzle=puzzle), True)
        self.assertEqual(count(start=((1, 1),), puzzle=puzzle), 1)
        self.assertEqual(count(puzzle=puzzle), 2)


class FixedHoldsTest(Case):

    def assert_judged(self, puzzle, start, claim, paper):
        whether = shows_fixed(puzzle, start, claim, paper)
        self.assertIs(fixed_holds(puzzle, start, claim, paper), whether)
        return whether

    def test_claims_and_papers_spoilt(self):
        draw = drawing(193)
        wrong = 0
        for puzzle, start, _ in list(drawn_cases(194, 10, 4)) + list(hard_cases(195, 10)):
            if not all_fillings(puzzle, start):
                continue
            claim, paper = fixed_cells(puzzle, start), fixed_paper(puzzle, start)
            for other in spoilt(claim):
                self.assert_judged(puzzle, start, other, paper)
            for k, (cell, value) in enumerate(claim):
                opposite = claim[:k] + ((cell, 1 - value),) + claim[k + 1:]
                self.assertIs(fixed_holds(puzzle, start, opposite, paper), False)
            worse = list(spoilt(paper))
            for other in draw.sample(worse, min(200, len(worse))):
                wrong += not self.assert_judged(puzzle, start, claim, other)
        self.assertGreater(wrong, 2000)

    def test_what_is_needed_left_out_and_what_is_more(self):
        puzzle = Puzzle(Book([RISING, UNLIKE, YES]), 5, [(0, (0, 1)), (0, (1, 2)), (1, (2, 3)), (2, (1,))])
        claim = ((1, 1), (2, 1), (3, 0))
        papers, _ = fixed_paper(puzzle)
        found = ((0, 1, 1, 0, 0), (1, 1, 1, 0, 1))
        self.assertIs(fixed_holds(puzzle, (), claim, (papers, found)), True)
        self.assertIs(fixed_holds(puzzle, (), claim, (papers, found[::-1] + found)), True)
        for k in range(3):
            fewer = claim[:k] + claim[k + 1:]
            self.assertIs(fixed_holds(puzzle, (), claim, (papers[:k] + papers[k + 1:], found)), False)
            self.assertIs(fixed_holds(puzzle, (), fewer, (papers[:k] + papers[k + 1:], found)), False)
            self.assertIs(fixed_holds(puzzle, (), fewer, (papers, found)), False)
        for more in ((0, 0), (0, 1)):
            self.assertIs(fixed_holds(puzzle, (), (more,) + claim, (papers[:1] + papers, found)), False)
        self.assertIs(fixed_holds(puzzle, (), claim[::-1], (papers[::-1], found)), False)
        for fewer in (found[:1], found[1:], (), found[:1] * 2, list(found), found + ((0, 1, 1, 1, 0),),
                      found + ((0, 0, 0, 1, 0),), found + ((0, 1, 1, 0),), found + ([0, 1, 1, 0, 0],),
                      found + ((0, 1, True, 0, 0),), (None,), found + (None,)):
            self.assertIs(fixed_holds(puzzle, (), claim, (papers, fewer)), False)
        for other in ([papers, found], (list(papers), found), (papers, found, ()), (papers,), (found, papers), papers):
            self.assertIs(fixed_holds(puzzle, (), claim, other), False)
        for other in (list(claim), [(1, 1), (2, 1), (3, 0)], ((True, 1), (2, 1), (3, 0)), ((1, True), (2, 1), (3, 0)),
                      ((1, 1), (2, 1), (3, False)), ([1, 1], (2, 1), (3, 0)), ((1, 1, 0), (2, 1), (3, 0)), None):
            self.assertIs(fixed_holds(puzzle, (), other, (papers, found)), False)

    def test_the_pairs_of_the_start_are_claimed_without_a_paper(self):
        puzzle = Puzzle(Book([UNLIKE]), 3, [(0, (0, 1))])
        start = ((1, 1),)
        papers = (("chain", (), 0),)
        found = ((0, 1, 0), (0, 1, 1))
        self.assertIs(fixed_holds(puzzle, start, ((0, 0), (1, 1)), (papers, found)), True)
        self.assertIs(fixed_holds(puzzle, start, ((0, 0),), (papers, found)), False)
        self.assertIs(fixed_holds(puzzle, start, ((0, 0), (1, 1)), (papers * 2, found)), False)
        self.assertIs(fixed_holds(puzzle, start, ((0, 0), (1, 1)), (papers, found + ((1, 0, 0),))), False)
        self.assertIs(fixed_holds(puzzle, (), ((0, 0), (1, 1)), (papers * 2, found)), False)

    def test_any_value_at_all(self):
        puzzle = Puzzle(Book([UNLIKE]), 2, [(0, (0, 1))])
        claim, paper = fixed_cells(puzzle), fixed_paper(puzzle)
        self.assertIs(fixed_holds(puzzle, (), claim, paper), True)
        for value in any_values():
            if value != ():
                self.assertIs(fixed_holds(puzzle, (), value, paper), False)
                self.assertIs(fixed_holds(puzzle, (), claim, (value, paper[1])), False)
            for other in (value, (value, value), ((), value), (value, ())):
                self.assertIs(fixed_holds(puzzle, (), claim, other), False)

    def test_where_there_is_no_filling(self):
        none = Puzzle(Book([NO, YES]), 2, [(0, (0,)), (1, (0,))])
        refused = ("chain", (), 0)
        self.assertIs(fixed_holds(none, (), (), ((), ())), False)
        self.assertIs(fixed_holds(none, (), ((0, 0), (1, 0)), ((refused, refused), ())), False)


class CountTest(Case):

    def test_drawn_puzzles(self):
        for puzzle, start, _ in drawn_cases(196, 40):
            for pairs in ((), start):
                found = count(puzzle, pairs)
                self.assertIs(type(found), int)
                self.assertEqual(found, len(all_fillings(puzzle, pairs)))

    def test_twelve_cells(self):
        puzzle = Puzzle(Book([ONE_OF_THREE, RISING]), 12, [(0, (0, 4, 8)), (1, (1, 5)), (1, (9, 1))])
        self.assertEqual(count(puzzle), 3 * 4 * 2 ** 6)
        self.assertEqual(count(puzzle, ((1, 1), (4, 1))), 2 ** 7)
        self.assertEqual(count(Puzzle(Book([ONE_OF_THREE]), 12, ())), 4096)
        self.assertEqual(count(Puzzle(Book([ONE_OF_THREE]), 0, ())), 1)

    def test_up_to_forty_cells_for_the_odd_one(self):
        ties = [(0, (k, k + 1, k + 2, k + 3)) for k in range(0, 30, 3)]
        for relation in (EVEN, EVEN.opposite()):
            book = Book([relation, UNLIKE])
            self.assertEqual(count(Puzzle(book, 40, ties)), 2 ** 30)
            self.assertEqual(count(Puzzle(book, 40, ties * 20)), 2 ** 30)
            self.assertEqual(count(Puzzle(book, 40, ties), ((0, 1), (35, 0), (39, 1))), 2 ** 27)
            self.assertEqual(count(Puzzle(book, 40, ties + [(1, (4, 4))])), 0)
            self.assertEqual(count(Puzzle(book, 40, ties), ((0, 1), (1, 1), (2, 1), (3, 0))), 0)
            self.assertEqual(count(Puzzle(book, 40, ())), 2 ** 40)
            self.assertEqual(count(Puzzle(book, 13, ties[:4])), 2 ** 9)
        # Books that and or majority keeps, too.
        self.assertEqual(count(Puzzle(Book([NO, YES]), 40, [(0, (3,)), (1, (5,)), (0, (3,))]), ((7, 1),)), 2 ** 37)
        self.assertEqual(count(Puzzle(Book([UNLIKE]), 40, [(0, (k, k + 1)) for k in range(39)])), 2)

    def test_counts_that_are_split_by_hand(self):
        # 26 cells in two halves that have nothing to do with each other.
        draw = drawing(197)
        for _ in range(10):
            half = [(0, tuple(draw.randrange(13) for _ in range(4))) for _ in range(9)]
            other = [(0, tuple(cell + 13 for cell in cells)) for _, cells in half]
            many = len(all_fillings(Puzzle(Book([EVEN]), 13, half)))
            self.assertEqual(count(Puzzle(Book([EVEN]), 26, half + other)), many * many)


class ErrorsTest(Case):

    def test_what_is_no_start(self):
        for start in NO_STARTS:
            for puzzle in (Puzzle(Book([UNLIKE]), 3, ()), Puzzle(Book([NO, YES]), 1, [(0, (0,)), (1, (0,))])):
                for call in (fixed_cells, fixed_paper, count):
                    self.assert_raises_with(InvalidStart, "value", start, call, puzzle, start)
                self.assert_raises_with(InvalidStart, "value", start, fixed_holds, puzzle, start, (), ((), ()))

    def test_where_there_is_no_filling(self):
        none = Puzzle(Book([NO, YES]), 2, [(0, (0,)), (1, (0,))])
        for call in (fixed_cells, fixed_paper):
            self.assert_raises_with(Undefined, "what", "filling", call, none)
        self.assertEqual(count(none), 0)


if __name__ == "__main__":
    unittest.main()
