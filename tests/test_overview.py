"""Section 1 of the document: its example, and what it says of every book, over the whole program."""

import unittest

from eightcells.books import Book
from eightcells.carrying import Carried
from eightcells.eight import deed_puzzle, side
from eightcells.filling import fill
from eightcells.fixed import count
from eightcells.papers import none_holds
from eightcells.puzzles import Puzzle, fillings
from eightcells.relations import Relation
from eightcells.tables import is_table, kept_by, made_row, table_of, worth_of
from eightcells.terms import is_plain, term_of, term_table
from tests.judge import paper_by_ring, paper_by_splits, paper_by_sum
from tests.refusals import assert_refuses
from tests.worked_out import (
    all_fillings, all_rows, all_tables, drawing, drawn_book, drawn_book_kept, drawn_puzzle, drawn_start, keeps,
    words_kept)

ONE_OF_THREE = Relation(3, ((0, 0, 1), (0, 1, 0), (1, 0, 0)))
ONE_OR_BOTH = Relation(2, ((0, 1), (1, 0), (1, 1)))
UNLIKE = Relation(2, ((0, 1), (1, 0)))
NOT_ALL_LIKE = Relation(3, all_rows(3)[1:7])
NOT_IF_BOTH = Relation(3, [row for row in all_rows(3) if row != (1, 1, 0)])
WORDS = ("all no", "all yes", "and", "or", "majority", "odd one", None, None, None)
PLACES = [tuple(row[place] for row in all_rows(3)) for place in range(3)]
PLAIN = PLACES + [tuple(1 - value for value in table) for table in PLACES]


def drawn_books(seed, many):
    """Books on each side: kept by a deed, by none, by turning all values."""
    draw = drawing(seed)
    for word in WORDS:
        for k in range(many):
            book = drawn_book_kept(draw, word, 2, (2, 3, 3), most=draw.choice((2, 3, 5)))
            if word is None and k % 2:
                book = Book([Relation(relation.size, relation.rows + relation.opposite().rows)
                             for relation in book.relations])
            yield book


class OverviewTest(unittest.TestCase):

    def test_the_example(self):
        self.assertEqual(side(Book([ONE_OF_THREE])), ("all", 3))
        self.assertEqual(side(Book([ONE_OR_BOTH])), ("kept", ("all yes", "or", "majority")))
        self.assertEqual(fill(Puzzle(Book([UNLIKE]), 3, ((0, (0, 1)), (0, (1, 2)), (0, (2, 0)))))[0], "none")

    def test_the_eight_cells_tell_which_of_the_two(self):
        seen = []
        for book in drawn_books(11, 12):
            for fixed in (False, True):
                start = ((0, 0), (7, 1)) if fixed else ()
                tables = fillings(deed_puzzle(book, 3), start)
                only_plain = all(table in PLAIN for table in tables)
                word, told = side(book, fixed=fixed)
                self.assertEqual(word, "all" if only_plain else "kept")
                self.assertEqual(words_kept(book, fixed), () if only_plain else told)
                if only_plain:
                    self.assertEqual(len(tables), told)
                seen.append((word, fixed, told if only_plain else None))
        self.assertEqual(set(seen), {("kept", False, None), ("kept", True, None), ("all", False, 3), ("all", False, 6),
                                     ("all", True, 3)})

    def test_what_a_deed_keeps_is_filled_or_refused_without_a_split(self):
        draw = drawing(12)
        refused = 0
        for book in drawn_books(13, 12):
            words = words_kept(book)
            for _ in range(4 if words else 0):
                puzzle = drawn_puzzle(draw, book, 5, 6)
                word, what = fill(puzzle)
                self.assertEqual(word, "filled" if all_fillings(puzzle) else "none")
                if word == "none":
                    refused += 1
                    self.assertNotIn("all no", words)
                    self.assertNotIn("all yes", words)
                    assert_refuses(self, puzzle, (), what, words_kept(book, True))
        self.assertGreater(refused, 20)

    def test_what_no_deed_keeps_takes_puzzles_over_any_relations(self):
        draw = drawing(14)
        seen = set()
        for book in list(drawn_books(15, 10)) + [Book([ONE_OF_THREE]), Book([ONE_OF_THREE, NOT_ALL_LIKE])]:
            if words_kept(book, True) == ():
                first = drawn_puzzle(draw, drawn_book(draw, 2, least=2), 4, 2)
                carried = Carried(first, book)
                told = side(book)
                seen.add(told if told[0] == "all" else "kept")
                self.assertEqual(carried.start == (), told[0] == "all")
                self.assertEqual(carried.times, 2 if told == ("all", 6) else 1)
                rows = all_fillings(first)
                found = fillings(carried.puzzle, carried.start)
                self.assertEqual(len(found), carried.times * len(rows))
                self.assertEqual({carried.back(row) for row in found}, set(rows))
                self.assertLessEqual({carried.on(row) for row in rows}, set(found))
                self.assertEqual(fill(carried.puzzle, carried.start)[0], "filled" if rows else "none")
        self.assertEqual(seen, {("all", 3), ("all", 6), "kept"})

    def test_a_paper_of_what_was_carried_refuses_the_first(self):
        first = Puzzle(Book([UNLIKE]), 3, [(0, (0, 1)), (0, (1, 2)), (0, (2, 0))])
        for relations in ([ONE_OF_THREE], [NOT_ALL_LIKE], [NOT_IF_BOTH, ONE_OR_BOTH]):
            carried = Carried(first, Book(relations))
            word, paper = fill(carried.puzzle, carried.start)
            self.assertEqual(word, "none")
            self.assertIs(none_holds(carried.puzzle, carried.start, paper), True)
            self.assertEqual(count(carried.puzzle, carried.start), 0)

    def test_whatever_paper_holds_there_is_no_filling(self):
        draw = drawing(16)
        held = 0
        for book in drawn_books(17, 12):
            puzzle = drawn_puzzle(draw, book, 4, 6)
            start = drawn_start(draw, 4, 2)
            rows = all_fillings(puzzle, start)
            for maker in (paper_by_splits, paper_by_ring, paper_by_sum):
                paper = maker(puzzle, dict(start))
                if paper is not None:
                    held += 1
                    self.assertIs(none_holds(puzzle, start, paper), True)
                    self.assertEqual(rows, ())
        self.assertGreater(held, 50)

    def test_each_table_that_is_not_plain_gives_one_of_the_six_and_terms_keep_what_it_keeps(self):
        draw = drawing(18)
        books = list(drawn_books(19, 3))
        for table in all_tables(3):
            self.assertTrue(is_table(table, 3))
            self.assertIs(is_plain(table), table in PLAIN)
            if table not in PLAIN:
                word, term = term_of(table)
                given = term_table(table, term)
                for row in all_rows(3):
                    places = row[:{2: 1, 4: 2, 8: 3}[len(table_of(word))]]
                    self.assertEqual(worth_of(given, row), worth_of(table_of(word), places))
                for book in draw.sample(books, 5):
                    if keeps(book, table):
                        self.assertTrue(keeps(book, given))
                        self.assertIn(word, kept_by(book))
        self.assertEqual(made_row(table_of("majority"), [(0, 1, 1), (1, 1, 0), (0, 0, 1)]), (0, 1, 1))


if __name__ == "__main__":
    unittest.main()
