"""Point [15], with [4]: papers made for drawn puzzles, drawn papers, and long ones."""

import unittest

from eightcells.books import Book
from eightcells.papers import none_holds
from eightcells.puzzles import Puzzle
from eightcells.relations import Relation
from tests.judge import paper_by_ring, paper_by_splits, paper_by_sum, shows
from tests.samples import spoilt
from tests.worked_out import all_fillings, all_rows, drawing, drawn_book, drawn_puzzle, drawn_start

PAIRS = [Relation(2, rows) for rows in ([(0, 1), (1, 0)], [(0, 0), (1, 1)], [(0, 0), (0, 1), (1, 1)],
                                        [(0, 1), (1, 0), (1, 1)], [(0, 0), (0, 1), (1, 0)])]
SUMS = [Relation(size, [row for row in all_rows(size) if sum(row) % 2 == bit])
        for size in (1, 2, 3, 4) for bit in (0, 1)]


def drawn_step(draw, puzzle):
    t = draw.randrange(len(puzzle.ties))
    return (t, draw.choice(puzzle.ties[t][1]), draw.randint(0, 1))


def drawn_part(draw, puzzle):
    t = draw.randrange(len(puzzle.ties))
    cells = sorted(set(puzzle.ties[t][1]))
    return (t, tuple(cell for cell in cells if draw.random() < 0.7), draw.randint(0, 1))


def drawn_paper(draw, puzzle, levels=2):
    kind = draw.choice(("chain", "ring", "sum", "split") if levels else ("chain", "ring", "sum"))
    steps = tuple(drawn_step(draw, puzzle) for _ in range(draw.randint(0, 3)))
    if kind == "chain":
        return ("chain", steps, draw.randrange(len(puzzle.ties)))
    cell = draw.randrange(puzzle.cell_count)
    if kind == "ring":
        more = tuple(drawn_step(draw, puzzle)[:1] + (cell, 1) for _ in range(draw.randint(1, 2)))
        return ("ring", cell, steps + (drawn_step(draw, puzzle)[:1] + (cell, 0),), more)
    if kind == "sum":
        return ("sum", tuple(drawn_part(draw, puzzle) for _ in range(draw.randint(1, 3))))
    return ("split", cell, drawn_paper(draw, puzzle, levels - 1), drawn_paper(draw, puzzle, levels - 1))


class DrawnPapersTest(unittest.TestCase):

    def assert_papers(self, puzzle, start, paper, draw):
        self.assertIs(none_holds(puzzle, start, paper), True)
        self.assertTrue(shows(puzzle, dict(start), paper))
        self.assertEqual(all_fillings(puzzle, start), ())
        worse = list(spoilt(paper))
        for other in draw.sample(worse, min(40, len(worse))):
            self.assertIs(none_holds(puzzle, start, other), shows(puzzle, dict(start), other))

    def assert_made(self, seed, relations, maker, tie_count, least):
        """The papers that the maker finds for drawn puzzles hold; it finds so many at least."""
        draw = drawing(seed)
        found = 0
        for _ in range(150):
            book = drawn_book(draw) if relations is None else Book(draw.sample(relations, 3))
            cell_count = draw.randint(2, 6)
            puzzle = drawn_puzzle(draw, book, cell_count, draw.randint(3, tie_count))
            start = drawn_start(draw, cell_count, 2)
            paper = maker(puzzle, dict(start))
            if paper is not None:
                found += 1
                self.assert_papers(puzzle, start, paper, draw)
        self.assertGreater(found, least)

    def test_chains_and_splits(self):
        self.assert_made(151, None, paper_by_splits, 8, 40)

    def test_rings(self):
        self.assert_made(152, PAIRS, paper_by_ring, 12, 30)

    def test_sums(self):
        self.assert_made(153, SUMS, paper_by_sum, 10, 40)

    def test_where_there_is_a_filling_no_drawn_paper_holds(self):
        draw = drawing(154)
        tried = 0
        while tried < 150:
            cell_count = draw.randint(1, 4)
            puzzle = drawn_puzzle(draw, drawn_book(draw, least=2), cell_count, draw.randint(1, 5))
            start = drawn_start(draw, cell_count, 2)
            if all_fillings(puzzle, start):
                tried += 1
                for _ in range(60):
                    self.assertIs(none_holds(puzzle, start, drawn_paper(draw, puzzle)), False)

    def test_where_there_is_a_filling_no_paper_of_one_tie_more_holds(self):
        draw = drawing(155)
        found = 0
        for _ in range(400):
            relations = draw.choice((PAIRS, SUMS))
            cell_count = draw.randint(2, 5)
            puzzle = drawn_puzzle(draw, Book(draw.sample(relations, 3)), cell_count, draw.randint(4, 9))
            for t in range(len(puzzle.ties)):
                fewer = puzzle.without(t).with_tie(puzzle.ties[0])
                for maker in (paper_by_splits, paper_by_ring, paper_by_sum):
                    paper = maker(puzzle, {}) if all_fillings(fewer) else None
                    if paper is not None:
                        found += 1
                        self.assertIs(none_holds(puzzle, (), paper), True)
                        self.assertIs(none_holds(fewer, (), paper), False)
        self.assertGreater(found, 100)

    def test_drawn_papers_are_judged_as_the_point_says(self):
        draw = drawing(156)
        held = 0
        for _ in range(300):
            relations = [Relation(1, [(0,)]), Relation(1, [(1,)])] + PAIRS[:2]
            puzzle = drawn_puzzle(draw, Book(draw.sample(relations, 3)), 2, draw.randint(3, 6))
            start = drawn_start(draw, 2, 1)
            for _ in range(40):
                paper = drawn_paper(draw, puzzle, 1)
                held += shows(puzzle, dict(start), paper)
                self.assertIs(none_holds(puzzle, start, paper), shows(puzzle, dict(start), paper))
        self.assertGreater(held, 300)


class LongPapersTest(unittest.TestCase):
    """About 100,000 integers, or as long as a paper of the kind that holds can be."""

    def setUp(self):
        self.unlike = Book([PAIRS[0], Relation(4, all_rows(4)[:15])])
        self.odd = Puzzle(self.unlike, 39, [(0, (k, (k + 1) % 39)) for k in range(39)] + [(1, (0, 1, 2, 3))] * 161)

    def test_a_long_ring(self):
        there = tuple((k, (k + 1) % 39, k % 2) for k in range(39))
        back = tuple((k, (k + 1) % 39, 1 - k % 2) for k in range(39))
        self.assertIs(none_holds(self.odd, (), ("ring", 0, there + (back + there) * 420, back)), True)
        self.assertIs(none_holds(self.odd, (), ("ring", 0, there + (back + there) * 420 + back[:1], back)), False)

    def test_a_long_sum(self):
        parts = tuple((k, (k, k + 1), 1) for k in range(38)) + ((38, (0, 38), 1),)
        self.assertIs(none_holds(self.odd, (), ("sum", parts * 641)), True)
        self.assertIs(none_holds(self.odd, (), ("sum", parts * 642)), False)
        self.assertIs(none_holds(self.odd, (), ("sum", parts + ((100, (), 0),) * 45000)), True)

    def test_a_long_chain(self):
        ties = [(0, (k, k + 1)) for k in range(2000)] + [(0, (2000, 0))]
        puzzle = Puzzle(self.unlike, 2001, ties)
        steps = tuple((k, k + 1, 1 - k % 2) for k in range(2000))
        self.assertIs(none_holds(puzzle, ((0, 0),), ("chain", steps, 2000)), True)
        self.assertIs(none_holds(puzzle, ((0, 1),), ("chain", steps, 2000)), False)
        self.assertIs(none_holds(self.odd, (), ("chain", ((0, 0, 0),) * 33000, 0)), False)

    def test_deep_splits(self):
        paper = ("chain", (), 0)
        for cell in range(39, 0, -1):
            paper = ("split", cell, ("chain", (), 0), paper)
        puzzle = Puzzle(self.unlike, 40, [(0, (0, 0))])
        self.assertIs(none_holds(puzzle, (), paper), True)
        self.assertIs(none_holds(puzzle, ((1, 0),), paper), False)
        for cell in range(1000):
            paper = ("split", cell + 40, paper, ("chain", (), 0))
        self.assertIs(none_holds(Puzzle(self.unlike, 1040, [(0, (0, 0))]), (), paper), True)

    def test_wide_splits(self):
        puzzle = Puzzle(self.unlike, 13, [(0, (0, 0))])
        self.assertIs(none_holds(puzzle, (), self.split_all(1, ("chain", (), 0))), True)
        self.assertIs(none_holds(puzzle, (), self.split_all(1, ("chain", (), 1))), False)

    def split_all(self, cell, leaf):
        if cell == 13:
            return leaf
        return ("split", cell, self.split_all(cell + 1, leaf), self.split_all(cell + 1, leaf))


if __name__ == "__main__":
    unittest.main()
