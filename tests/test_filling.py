"""Point [17], with [1] and [2]: fill, the least filling and the greatest one."""

import unittest

from eightcells.books import Book
from eightcells.errors import InvalidStart, Undefined
from eightcells.filling import fill, greatest_filling, least_filling
from eightcells.puzzles import Puzzle
from eightcells.relations import Relation
from tests.cases import Case
from tests.refusals import assert_refuses
from tests.samples import any_values, is_all_plain
from tests.worked_out import (
    all_fillings, all_rows, deed_tables, drawing, drawn_book_kept, drawn_puzzle, drawn_start, keeps, words_kept)

NO = Relation(1, [(0,)])
YES = Relation(1, [(1,)])
UNLIKE = Relation(2, [(0, 1), (1, 0)])
RISING = Relation(2, [(0, 0), (0, 1), (1, 1)])
ONE_OR_BOTH = Relation(2, [(0, 1), (1, 0), (1, 1)])
EVEN = Relation(3, [(0, 0, 0), (0, 1, 1), (1, 0, 1), (1, 1, 0)])
ODD = Relation(3, [(0, 0, 1), (0, 1, 0), (1, 0, 0), (1, 1, 1)])
FOUR_EVEN = Relation(4, [row for row in all_rows(4) if sum(row) % 2 == 0])
FOUR_ODD = Relation(4, [row for row in all_rows(4) if sum(row) % 2 == 1])
ONE_OF_THREE = Relation(3, [(0, 0, 1), (0, 1, 0), (1, 0, 0)])
NOT_ALL_LIKE = Relation(3, all_rows(3)[1:7])
HORN = Relation(3, [row for row in all_rows(3) if row != (1, 1, 0)])
BOOK = Book([NO, YES, UNLIKE, RISING, ONE_OF_THREE])

NO_STARTS = [value for value in any_values() if value not in ((), ((0, 1),))] + [
    [], [(0, 1)], ((5, 0),), ((-1, 0),), ((0, 2),), ((0, -1),), ((0, True),), ((False, 1),), ((0, None),),
    ((0, 1), (0, 1)), ((0, 1), (0, 0)), ((1, 0), (0, 0)), ([0, 1],), ((0, 1, 0),), ((0,),), ((0, 1), None)]


class FillTest(Case):

    def assert_fill(self, puzzle, start=(), words=None):
        """Answers the kind of what fill gives."""
        found = fill(puzzle, start)
        self.assertTrue(is_all_plain(found))
        self.assertEqual(len(found), 2)
        rows = all_fillings(puzzle, start)
        self.assertEqual(found[0], "filled" if rows else "none")
        if rows:
            self.assertIn(found[1], rows)
        else:
            assert_refuses(self, puzzle, start, found[1], words)
        self.assertEqual(fill(puzzle, start), found)
        return "filled" if rows else found[1][0]

    def test_worked_out_by_hand(self):
        three = Puzzle(BOOK, 3, [(2, (0, 1)), (2, (1, 2)), (2, (2, 0))])
        self.assertEqual(self.assert_fill(three), "split")
        self.assertEqual(self.assert_fill(three.without(2), ((0, 1),)), "filled")
        self.assertEqual(fill(three.without(2), ((0, 1),)), ("filled", (1, 0, 1)))
        self.assertEqual(self.assert_fill(three.without(2), ((0, 1), (2, 0))), "chain")
        self.assertEqual(fill(Puzzle(BOOK, 2, [(4, (0, 0, 1))])), ("filled", (0, 1)))
        self.assertEqual(fill(Puzzle(BOOK, 1, [(4, (0, 0, 0))])), ("none", ("chain", (), 0)))

    def test_the_ring_and_the_sum(self):
        pairs = Book([UNLIKE, RISING])
        three = ((0, (0, 1)), (0, (1, 2)), (0, (2, 0)))
        self.assertEqual(self.assert_fill(Puzzle(pairs, 3, three)), "ring")
        self.assertEqual(self.assert_fill(Puzzle(pairs, 5, three + ((1, (2, 3)), (1, (3, 4)))), ((4, 0),)), "ring")
        self.assertEqual(self.assert_fill(Puzzle(Book([UNLIKE, EVEN]), 3, three)), "sum")
        self.assertEqual(self.assert_fill(Puzzle(Book([ODD, EVEN]), 4, [(0, (0, 1, 2)), (1, (0, 1, 2))])), "sum")

    def test_sums_that_no_single_tie_shows(self):
        # Cells 0 and 1 are alike, as both ties have the same other cells.
        puzzle = Puzzle(Book([FOUR_EVEN]), 5, [(0, (2, 3, 4, 0)), (0, (2, 3, 4, 1))])
        self.assertEqual(self.assert_fill(puzzle), "filled")
        for start in (((0, 1),), ((1, 1),), ((0, 1), (1, 1)), ((0, 0), (1, 0), (4, 1))):
            self.assertEqual(self.assert_fill(puzzle, start), "filled")
        for start in (((0, 1), (1, 0)), ((0, 0), (1, 1), (3, 1))):
            self.assertEqual(self.assert_fill(puzzle, start), "sum")
        draw = drawing(1703)
        kinds = []
        for _ in range(60):
            ties = [(draw.randint(0, 1), tuple(draw.sample(range(8), 4))) for _ in range(draw.randint(5, 8))]
            kinds.append(self.assert_fill(Puzzle(Book([FOUR_EVEN, FOUR_ODD]), 8, ties), drawn_start(draw, 8, 2)))
        self.assertGreater(min(kinds.count(kind) for kind in ("filled", "sum")), 15)

    def test_no_ties_and_no_cells(self):
        for book in (BOOK, Book([UNLIKE, RISING]), Book([UNLIKE, EVEN]), Book([HORN]), Book([NO])):
            self.assertEqual(fill(Puzzle(book, 0, ())), ("filled", ()))
            self.assertEqual(self.assert_fill(Puzzle(book, 4, ())), "filled")
            start = ((0, 1), (2, 0), (3, 1))
            self.assertEqual(self.assert_fill(Puzzle(book, 4, ()), start), "filled")

    def assert_drawn(self, word, seed, many, kinds, sizes=((2,), (2, 3), (1, 2, 3, 4)), ties=9, starts=1):
        """Drawn puzzles, of which so many at least are of each of these kinds, and are kept by the word first of all."""
        draw = drawing(seed)
        seen = []
        for _ in range(many):
            book = drawn_book_kept(draw, word, sizes=draw.choice(sizes), least=2, most=draw.choice((3, 6, 9)))
            words = words_kept(book, True)
            cell_count = draw.randint(2, 6)
            puzzle = drawn_puzzle(draw, book, cell_count, draw.randint(0, ties))
            for start in [()] + [drawn_start(draw, cell_count) for _ in range(starts)]:
                kind = self.assert_fill(puzzle, start, words)
                if not start and word in ("all no", "all yes"):
                    self.assertEqual(kind, "filled")
                if words == () or word in words and not {"and", "or", "majority"} & set(words[:words.index(word)]):
                    seen.append(kind)
        for kind, least in kinds.items():
            self.assertGreaterEqual(seen.count(kind), least, kind)

    def test_books_kept_by_and(self):
        self.assert_drawn("and", 171, 80, {"filled": 20, "chain": 20})

    def test_books_kept_by_or(self):
        self.assert_drawn("or", 172, 120, {"filled": 20, "chain": 20})

    def test_books_kept_by_majority(self):
        self.assert_drawn("majority", 173, 250, {"filled": 20, "chain": 20, "ring": 10}, ((2,), (2, 2, 3)))

    def test_books_kept_by_the_odd_one(self):
        self.assert_drawn("odd one", 174, 250, {"filled": 20, "sum": 20}, ((3,), (2, 3), (3, 4)))

    def test_books_kept_by_all_no(self):
        self.assert_drawn("all no", 175, 120, {"filled": 20, "chain": 20}, ((2, 3, 4), (3, 4)), starts=2)

    def test_books_kept_by_all_yes(self):
        self.assert_drawn("all yes", 176, 120, {"filled": 20, "chain": 20}, ((2, 3, 4), (3, 4)), starts=2)

    def test_books_that_nothing_keeps(self):
        self.assert_drawn(None, 177, 150, {"filled": 20, "chain": 20}, ((3,), (3, 4)))
        draw = drawing(178)
        kinds = []
        for _ in range(80):
            ties = [(draw.randint(0, 1), tuple(draw.sample(range(6), 3))) for _ in range(draw.randint(3, 8))]
            kinds.append(self.assert_fill(Puzzle(Book([ONE_OF_THREE, NOT_ALL_LIKE]), 6, ties), drawn_start(draw, 6, 2)))
        self.assertGreater(min(kinds.count(kind) for kind in ("filled", "chain", "split")), 3)

    def test_twelve_cells(self):
        draw = drawing(179)
        kinds = []
        for many in (10, 15, 20, 25, 30, 40, 60, 200):
            ties = [(0, tuple(draw.sample(range(12), 3))) for _ in range(many)]
            kinds.append(self.assert_fill(Puzzle(Book([NOT_ALL_LIKE]), 12, ties), (), ()))
        self.assertGreater(min(kinds.count(kind) for kind in ("filled", "split")), 2)

    def test_arguments_by_name(self):
        puzzle = Puzzle(BOOK, 2, [(2, (0, 1))])
        self.assertEqual(fill(start=((1, 1),), puzzle=puzzle), ("filled", (0, 1)))
        self.assertEqual(fill(puzzle=puzzle), fill(puzzle, ()))

    def test_what_is_no_start(self):
        for start in NO_STARTS:
            for puzzle in (Puzzle(BOOK, 5, ()), Puzzle(BOOK, 1, [(0, (0,)), (1, (0,))])):
                self.assert_raises_with(InvalidStart, "value", start, fill, puzzle, start)


class LeastAndGreatestTest(Case):

    def assert_outermost(self, call, word, puzzle, start):
        """Against all fillings of the puzzle."""
        rows = all_fillings(puzzle, start)
        table = dict(deed_tables())[word]
        if not keeps(puzzle.book, table):
            self.assert_raises_with(Undefined, "what", "deed", call, puzzle, start)
        elif not rows:
            self.assert_raises_with(Undefined, "what", "filling", call, puzzle, start)
        else:
            found = call(puzzle, start)
            pick = min if word == "and" else max
            self.assertEqual(found, tuple(pick(values) for values in zip(*rows)))
            self.assertTrue(is_all_plain(found))
            self.assertIn(found, rows)
            return "filled"
        return "none"

    def assert_drawn(self, call, word, seed):
        draw = drawing(seed)
        seen = {"filled": 0, "none": 0}
        for _ in range(150):
            book = drawn_book_kept(draw, word, sizes=draw.choice(((2, 3), (1, 2, 3, 4))), most=draw.choice((2, 4, 8)))
            cell_count = draw.randint(1, 6)
            puzzle = drawn_puzzle(draw, book, cell_count, draw.randint(0, 7))
            for start in ((), drawn_start(draw, cell_count)):
                seen[self.assert_outermost(call, word, puzzle, start)] += 1
        self.assertGreater(min(seen.values()), 30)

    def test_the_least(self):
        self.assert_drawn(least_filling, "and", 1701)

    def test_the_greatest(self):
        self.assert_drawn(greatest_filling, "or", 1702)

    def test_worked_out_by_hand(self):
        puzzle = Puzzle(Book([RISING, YES]), 4, [(0, (0, 1)), (0, (1, 2))])
        self.assertEqual(least_filling(puzzle), (0, 0, 0, 0))
        self.assertEqual(greatest_filling(puzzle), (1, 1, 1, 1))
        self.assertEqual(least_filling(puzzle, ((1, 1),)), (0, 1, 1, 0))
        self.assertEqual(greatest_filling(puzzle, ((1, 0),)), (0, 0, 1, 1))
        self.assertEqual(least_filling(puzzle.with_tie((1, (0,)))), (1, 1, 1, 0))
        self.assertEqual(least_filling(Puzzle(puzzle.book, 0, ())), ())

    def test_books_that_the_deed_does_not_keep(self):
        for book, call in ((Book([UNLIKE]), least_filling), (Book([UNLIKE]), greatest_filling),
                           (Book([RISING, ONE_OR_BOTH]), least_filling),
                           (Book([RISING, ONE_OR_BOTH.opposite()]), greatest_filling), (Book([EVEN]), least_filling)):
            for puzzle, start in ((Puzzle(book, 3, ()), ()), (Puzzle(book, 3, [(0, (0, 1, 2)[:book.relations[0].size])]),
                                                              ((0, 1), (1, 0), (2, 0)))):
                self.assert_raises_with(Undefined, "what", "deed", call, puzzle, start)

    def test_the_errors_in_their_order(self):
        refused = Puzzle(Book([UNLIKE]), 1, [(0, (0, 0))])
        none = Puzzle(Book([RISING, NO, YES]), 1, [(1, (0,)), (2, (0,))])
        for call in (least_filling, greatest_filling):
            for start in NO_STARTS:
                self.assert_raises_with(InvalidStart, "value", start, call, refused, start)
                self.assert_raises_with(InvalidStart, "value", start, call, none, start)
            self.assert_raises_with(Undefined, "what", "deed", call, refused, ())
            self.assert_raises_with(Undefined, "what", "filling", call, none)

    def test_arguments_by_name(self):
        puzzle = Puzzle(Book([RISING]), 2, [(0, (0, 1))])
        self.assertEqual(least_filling(start=((0, 1),), puzzle=puzzle), (1, 1))
        self.assertEqual(greatest_filling(start=((1, 0),), puzzle=puzzle), (0, 0))


if __name__ == "__main__":
    unittest.main()
