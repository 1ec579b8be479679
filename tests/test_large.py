"""Points [17] to [19], with [4]: puzzles of forty cells and two hundred ties, filled and refused."""

import unittest

from eightcells.books import Book
from eightcells.errors import Undefined
from eightcells.filling import fill, first_by, first_holds, first_paper, greatest_filling, least_filling
from eightcells.fixed import count, fixed_cells, fixed_holds, fixed_paper
from eightcells.puzzles import Puzzle
from eightcells.relations import Relation
from tests.cases import Case
from tests.drawn import FAST, large_puzzle
from tests.refusals import assert_refuses, put_in
from tests.worked_out import all_rows, drawing, drawn_start, fits, words_kept

UNLIKE = Relation(2, [(0, 1), (1, 0)])
RISING = Relation(2, [(0, 0), (0, 1), (1, 1)])
ONE_OR_BOTH = Relation(2, [(0, 1), (1, 0), (1, 1)])
EVEN = Relation(4, [row for row in all_rows(4) if sum(row) % 2 == 0])


class LargeTest(Case):

    def assert_filled_or_refused(self, puzzle, start, words):
        word, what = fill(puzzle, start)
        if word == "filled":
            self.assertTrue(fits(puzzle, what, start))
        else:
            assert_refuses(self, puzzle, start, what, words)
        return word == "filled"

    def assert_first(self, puzzle, start, words, wishes):
        row, paper = first_by(puzzle, wishes, start), first_paper(puzzle, wishes, start)
        self.assertTrue(fits(puzzle, row, start))
        self.assertIs(first_holds(puzzle, wishes, start, row, paper), True)
        fixed = dict(start)
        refused = []
        for cell in range(40):
            if cell not in fixed and row[cell] != wishes[cell]:
                refused.append(tuple(sorted({**fixed, cell: wishes[cell]}.items())))
            fixed[cell] = row[cell]
        self.assertEqual(len(paper), len(refused))
        for more, part in zip(refused, paper):
            assert_refuses(self, puzzle, more, part, words)
        return len(refused)

    def assert_fixed(self, puzzle, start, words):
        pairs = fixed_cells(puzzle, start)
        papers, found = fixed_paper(puzzle, start)
        self.assertIs(fixed_holds(puzzle, start, pairs, (papers, found)), True)
        told = dict(pairs)
        for cell in range(40):
            self.assertTrue(cell in told or {row[cell] for row in found} == {0, 1})
        more = [(cell, value) for cell, value in pairs if (cell, value) not in start]
        self.assertEqual(len(papers), len(more))
        for (cell, value), part in zip(more, papers):
            assert_refuses(self, puzzle, put_in(start, (cell, 1 - value)), part, words)

    def assert_large(self, word, seed):
        draw = drawing(seed)
        refused = 0
        for planted, many in ((True, 200), (True, 60), (True, 25), (False, 200), (False, 60), (False, 30)):
            puzzle = large_puzzle(draw, word, planted, many)
            words = words_kept(puzzle.book, True)
            for start in ((), drawn_start(draw, 40)):
                if self.assert_filled_or_refused(puzzle, start, words):
                    wishes = tuple(draw.randint(0, 1) for _ in range(40))
                    self.assert_first(puzzle, start, words, wishes)
                    self.assert_fixed(puzzle, start, words)
                else:
                    refused += 1
                    self.assert_undefined(puzzle, start)
                if "odd one" in words:
                    self.assertEqual(count(puzzle, start) > 0, fill(puzzle, start)[0] == "filled")
        self.assertGreater(refused, 1)

    def assert_undefined(self, puzzle, start):
        for call in (fixed_cells, fixed_paper):
            self.assert_raises_with(Undefined, "what", "filling", call, puzzle, start)
        self.assert_raises_with(Undefined, "what", "filling", first_by, puzzle, (0,) * 40, start)

    def test_books_kept_by_and(self):
        self.assert_large("and", 201)

    def test_books_kept_by_or(self):
        self.assert_large("or", 202)

    def test_books_kept_by_majority(self):
        self.assert_large("majority", 203)

    def test_books_kept_by_the_odd_one(self):
        self.assert_large("odd one", 204)

    def test_each_deed_is_alone_in_some_puzzle(self):
        draw = drawing(205)
        for word in FAST:
            found = [words_kept(large_puzzle(draw, word, False, 1).book, True) for _ in range(4)]
            self.assertTrue(any(words == (word,) for words in found), word)

    def test_pairs_on_the_edge(self):
        # About as many pairs as cells: some puzzles have fillings, the others need long rings.
        draw = drawing(206)
        relations = [RISING, ONE_OR_BOTH, ONE_OR_BOTH.opposite(), UNLIKE]
        kinds = {"filled": 0, "ring": 0}
        for _ in range(60):
            ties = [(draw.choice((0, 0, 1, 2, 3)), tuple(draw.sample(range(40), 2))) for _ in range(44)]
            puzzle = Puzzle(Book(relations), 40, ties)
            if self.assert_filled_or_refused(puzzle, (), ("majority",)):
                kinds["filled"] += 1
            else:
                kinds[fill(puzzle)[1][0]] += 1
        self.assertGreater(min(kinds.values()), 10)

    def test_a_ring_through_all_cells(self):
        ties = [(0, (k, (k + 1) % 39)) for k in range(39)]
        puzzle = Puzzle(Book([UNLIKE, RISING]), 40, ties + [(1, (k, 39)) for k in range(39)] * 4)
        _, paper = fill(puzzle)
        assert_refuses(self, puzzle, (), paper)
        self.assertEqual((len(paper[2]), len(paper[3])), (39, 39))
        sums = Puzzle(Book([UNLIKE, EVEN]), 40, ties)
        _, paper = fill(sums)
        assert_refuses(self, sums, (), paper)
        self.assertEqual(len(paper[1]), 39)

    def test_sums_on_the_edge(self):
        # About as many sums as cells: no single tie shows what some of them say together.
        draw = drawing(207)
        book = Book([EVEN, Relation(4, [row for row in all_rows(4) if not EVEN.has(row)])])
        refused = 0
        for many, planted in ((30, True), (36, True), (40, True), (200, True), (44, False), (60, False)) * 3:
            row = [draw.randint(0, 1) for _ in range(40)]
            all_cells = [tuple(draw.sample(range(40), 4)) for _ in range(many)]
            ties = [(sum(row[cell] for cell in cells) % 2 if planted else draw.randint(0, 1), cells)
                    for cells in all_cells]
            puzzle = Puzzle(book, 40, ties)
            if self.assert_filled_or_refused(puzzle, (), ("odd one",)):
                self.assert_first(puzzle, (), ("odd one",), (1,) * 40)
                self.assert_fixed(puzzle, (), ("odd one",))
            else:
                self.assertFalse(planted)
                refused += 1
        self.assertGreater(refused, 2)

    def test_least_and_greatest(self):
        ties = [(0, (k, k + 1)) for k in range(39)]
        puzzle = Puzzle(Book([RISING]), 40, ties * 5)
        self.assertEqual(least_filling(puzzle, ((20, 1),)), (0,) * 20 + (1,) * 20)
        self.assertEqual(greatest_filling(puzzle, ((20, 0),)), (0,) * 21 + (1,) * 19)
        self.assertEqual(fixed_cells(puzzle, ((20, 1), (30, 1))), tuple((k, 1) for k in range(20, 40)))
        self.assertEqual(first_by(puzzle, (0, 1) * 20), (0,) + (1,) * 39)
        self.assertEqual(self.assert_first(puzzle, (), ("and",), (0, 1) * 20), 19)


if __name__ == "__main__":
    unittest.main()
