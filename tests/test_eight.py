"""Points [13] and [14], with [1] and [2]: the deed puzzle and the side of a book."""

import unittest
from itertools import product

from eightcells.books import Book
from eightcells.eight import deed_puzzle, side, side_holds, side_paper
from eightcells.errors import CellError, InvalidNumber
from eightcells.puzzles import Puzzle, fillings
from eightcells.relations import Relation
from tests.samples import any_values, is_all_plain, spoilt
from tests.worked_out import all_fillings, all_rows, all_tables, drawing, drawn_book, keeps, made, words_kept

NO = Relation(1, [(0,)])
YES = Relation(1, [(1,)])
UNLIKE = Relation(2, [(0, 1), (1, 0)])
RISING = Relation(2, [(0, 0), (0, 1), (1, 1)])
ONE_OR_BOTH = Relation(2, [(0, 1), (1, 0), (1, 1)])
NOT_BOTH = ONE_OR_BOTH.opposite()
EVEN = Relation(3, [(0, 0, 0), (0, 1, 1), (1, 0, 1), (1, 1, 0)])
ONE_OF_THREE = Relation(3, [(0, 0, 1), (0, 1, 0), (1, 0, 0)])
NOT_ALL_LIKE = Relation(3, all_rows(3)[1:7])
HORN = Relation(3, [row for row in all_rows(3) if row != (1, 1, 0)])
FOUR = Relation(4, [(0, 0, 1, 1), (0, 1, 0, 1), (1, 0, 0, 0)])
PLACES = [tuple(row[place] for row in all_rows(3)) for place in range(3)]
PLAIN = PLACES + [tuple(1 - value for value in table) for table in PLACES]

# Each book with its side and its side with fixed=True.
SIDES = [
    ([NO], ("kept", ("all no", "and", "or", "majority", "odd one")), ("kept", ("and", "or", "majority", "odd one"))),
    ([YES], ("kept", ("all yes", "and", "or", "majority", "odd one")), ("kept", ("and", "or", "majority", "odd one"))),
    ([HORN], ("kept", ("all no", "all yes", "and")), ("kept", ("and",))),
    ([HORN, ONE_OR_BOTH], ("kept", ("all yes",)), ("all", 3)),
    ([HORN, NOT_BOTH], ("kept", ("all no", "and")), ("kept", ("and",))),
    ([HORN, NOT_BOTH, YES], ("kept", ("and",)), ("kept", ("and",))),
    ([HORN.opposite(), ONE_OR_BOTH, NO], ("kept", ("or",)), ("kept", ("or",))),
    ([HORN.opposite(), NOT_BOTH], ("kept", ("all no",)), ("all", 3)),
    ([ONE_OR_BOTH], ("kept", ("all yes", "or", "majority")), ("kept", ("or", "majority"))),
    ([UNLIKE, RISING], ("kept", ("majority",)), ("kept", ("majority",))),
    ([UNLIKE, EVEN], ("kept", ("odd one",)), ("kept", ("odd one",))),
    ([UNLIKE], ("kept", ("majority", "odd one")), ("kept", ("majority", "odd one"))),
    ([EVEN, RISING], ("kept", ("all no",)), ("all", 3)),
    ([ONE_OF_THREE], ("all", 3), ("all", 3)),
    ([EVEN, ONE_OR_BOTH], ("all", 3), ("all", 3)),
    ([NOT_ALL_LIKE], ("all", 6), ("all", 3)),
    ([NOT_ALL_LIKE, UNLIKE, UNLIKE], ("all", 6), ("all", 3)),
    ([NOT_ALL_LIKE, NO], ("all", 3), ("all", 3)),
    ([FOUR, UNLIKE], ("all", 3), ("all", 3)),
    ([Relation(4, all_rows(4)[1:15])], ("all", 6), ("all", 3)),
    ([Relation(4, all_rows(4)[2:15]), Relation(4, all_rows(4)[:14])], ("all", 3), ("all", 3)),
]


def side_tried(book, fixed):
    """The side, by all rows of the deed puzzle of three places that keep the start of it."""
    words = words_kept(book, fixed)
    if words:
        return ("kept", words)
    start = ((0, 0), (7, 1)) if fixed else ()
    return ("all", len(all_fillings(deed_puzzle(book, 3), start)))


def tables_to_break(k, fixed):
    """The tables that the point names: of each of them some pair of a paper is to show that it breaks the book."""
    tables = [table for table in all_tables(3) if not fixed or (table[0], table[7]) == (0, 1)]
    return [table for table in tables if table not in PLAIN[:k]]


def shows_all(book, paper, k, fixed):
    """Whether the paper is such a tuple, by the words of the point."""
    if type(paper) is not tuple:
        return False
    for pair in paper:
        if type(pair) is not tuple or len(pair) != 2 or type(pair[0]) is not int or not 0 <= pair[0] < len(book):
            return False
        if type(pair[1]) is not tuple or len(pair[1]) != 3:
            return False
        for row in pair[1]:
            if not is_all_plain(row) or row not in book.relations[pair[0]].rows:
                return False
    return all(any(made(table, rows) not in book.relations[number].rows for number, rows in paper)
               for table in tables_to_break(k, fixed))


class DeedPuzzleTest(unittest.TestCase):

    def assert_deed_puzzle(self, book, m):
        puzzle = deed_puzzle(book, m)
        self.assertIs(type(puzzle), Puzzle)
        self.assertEqual(puzzle.book, book)
        self.assertEqual(puzzle.cell_count, 2 ** m)
        rows = all_rows(m)
        ties = []
        for number, relation in enumerate(book.relations):
            for chosen in product(relation.rows, repeat=m):
                ties.append((number, tuple(rows.index(tuple(row[place] for row in chosen))
                                           for place in range(relation.size))))
        self.assertTrue(is_all_plain(puzzle.ties))
        self.assertEqual(puzzle.ties, tuple(ties))

    def test_worked_out_by_hand(self):
        puzzle = deed_puzzle(Book([UNLIKE, NO]), 1)
        self.assertEqual((puzzle.cell_count, puzzle.ties), (2, ((0, (0, 1)), (0, (1, 0)), (1, (0,)))))
        puzzle = deed_puzzle(Book([UNLIKE]), 2)
        self.assertEqual((puzzle.cell_count, puzzle.ties), (4, ((0, (0, 3)), (0, (1, 2)), (0, (2, 1)), (0, (3, 0)))))
        puzzle = deed_puzzle(Book([ONE_OF_THREE]), 3)
        self.assertEqual(puzzle.ties[:3] + puzzle.ties[5:6],
                         ((0, (0, 0, 7)), (0, (0, 1, 6)), (0, (1, 0, 6)), (0, (1, 2, 4))))
        self.assertEqual((puzzle.cell_count, len(puzzle.ties)), (8, 27))
        puzzle = deed_puzzle(Book([Relation(1, [(0,), (1,)])]), 4)
        self.assertEqual((puzzle.cell_count, puzzle.ties), (16, tuple((0, (cell,)) for cell in range(16))))

    def test_just_these_ties_in_their_order(self):
        draw = drawing(131)
        for _ in range(40):
            book = drawn_book(draw, 4, most=5)
            for m in (1, 2, 3, 4):
                self.assert_deed_puzzle(book, m)

    def test_large_books(self):
        six = [Relation(4, all_rows(4)[k:k + 8]) for k in range(6)]
        self.assert_deed_puzzle(Book(six), 3)
        self.assert_deed_puzzle(Book([Relation(4, all_rows(4)[k:k + 5]) for k in range(6)]), 4)
        self.assert_deed_puzzle(Book([Relation(4, all_rows(4))] * 2), 2)

    def test_its_fillings_are_the_tables_that_keep_the_book(self):
        draw = drawing(132)
        for _ in range(40):
            book = drawn_book(draw, 3, most=draw.choice((2, 4, 9)))
            for m in (1, 2):
                kept = [table for table in all_tables(m) if keeps(book, table)]
                self.assertEqual(list(all_fillings(deed_puzzle(book, m))), kept)
                self.assertEqual(list(fillings(deed_puzzle(book, m))), kept)

    def test_its_fillings_with_three_places(self):
        for relations in ([ONE_OF_THREE], [UNLIKE, RISING], [ONE_OR_BOTH], [NOT_ALL_LIKE], [EVEN, NO], [FOUR]):
            book = Book(relations)
            kept = [table for table in all_tables(3) if keeps(book, table)]
            self.assertEqual(list(fillings(deed_puzzle(book, 3))), kept)

    def test_arguments_by_name(self):
        self.assertEqual(deed_puzzle(m=2, book=Book([UNLIKE])), deed_puzzle(Book([UNLIKE]), 2))

    def test_what_is_no_number_of_places(self):
        wrong = [thing for thing in any_values() if type(thing) is not int]
        for m in wrong + [0, 5, -1, -4, 6, 10 ** 5000, True, False, None, "1", (1,), [1]]:
            with self.assertRaises(CellError) as told:
                deed_puzzle(Book([UNLIKE]), m)
            self.assertIs(type(told.exception), InvalidNumber)
            self.assertIs(told.exception.value, m)


class SideTest(unittest.TestCase):

    def assert_side(self, book, fixed, expected):
        found = side(book, fixed=fixed)
        self.assertTrue(is_all_plain(found))
        self.assertEqual(found, expected)
        self.assertEqual(side(book, fixed=fixed), found)

    def test_worked_out_by_hand(self):
        for relations, loose, fast in SIDES:
            book = Book(relations)
            self.assertEqual(side(book), loose)
            self.assert_side(book, False, loose)
            self.assert_side(book, True, fast)

    def test_against_tables_tried(self):
        for relations, _, _ in SIDES:
            book = Book(relations)
            if max(len(relation) for relation in relations) <= 8:
                for fixed in (False, True):
                    self.assert_side(book, fixed, side_tried(book, fixed))

    def test_drawn_books(self):
        draw = drawing(141)
        seen = set()
        for _ in range(120):
            book = drawn_book(draw, 2, most=draw.choice((2, 4, 6)))
            for fixed in (False, True):
                self.assert_side(book, fixed, side_tried(book, fixed))
                seen.add(side(book, fixed=fixed)[0])
        self.assertEqual(seen, {"kept", "all"})

    def test_just_so_many_fillings_and_all_plain(self):
        draw = drawing(142)
        books = [Book(relations) for relations, _, _ in SIDES] + [drawn_book(draw, 3, most=7) for _ in range(60)]
        for book in books:
            for fixed in (False, True):
                found = fillings(deed_puzzle(book, 3), ((0, 0), (7, 1)) if fixed else ())
                plain = len(found) in (3, 6) and all(table in PLAIN for table in found)
                self.assert_side(book, fixed, ("all", len(found)) if plain else ("kept", words_kept(book, fixed)))

    def test_fixed_is_passed_by_name_alone(self):
        for call in (side, side_paper):
            with self.assertRaises(TypeError):
                call(Book([UNLIKE]), True)
        with self.assertRaises(TypeError):
            side_holds(Book([UNLIKE]), ("all", 3), (), True)
        self.assertEqual(side(fixed=True, book=Book([EVEN, RISING])), ("all", 3))


class PaperTest(unittest.TestCase):

    def assert_paper(self, book):
        for fixed in (False, True):
            claim, paper = side(book, fixed=fixed), side_paper(book, fixed=fixed)
            self.assertTrue(is_all_plain(paper))
            if claim[0] == "kept":
                self.assertEqual(paper, ())
            else:
                self.assertTrue(shows_all(book, paper, claim[1], fixed))
            self.assertIs(side_holds(book, claim, paper, fixed=fixed), True)
            self.assertEqual(side_paper(book, fixed=fixed), paper)

    def test_worked_out_by_hand(self):
        for relations, _, _ in SIDES:
            self.assert_paper(Book(relations))
        self.assertEqual(side_paper(Book([UNLIKE])), ())

    def test_drawn_books(self):
        draw = drawing(143)
        for _ in range(60):
            self.assert_paper(drawn_book(draw, 4, least=2, most=draw.choice((3, 6, 9))))

    def test_large_books(self):
        self.assert_paper(Book([Relation(4, all_rows(4)[:k] + all_rows(4)[k + 1:]) for k in (15, 0, 3, 5, 7, 9)]))
        self.assert_paper(Book([Relation(4, all_rows(4))] * 6))

    def test_arguments_by_name(self):
        book = Book([EVEN, RISING])
        self.assertEqual(side_paper(book=book), ())
        paper = side_paper(fixed=True, book=book)
        self.assertIs(side_holds(paper=paper, claim=("all", 3), book=book, fixed=True), True)
        self.assertIs(side_holds(book, ("all", 3), paper), False)


class SideHoldsTest(unittest.TestCase):

    def assert_holds(self, book, claim, paper, fixed, whether):
        self.assertIs(side_holds(book, claim, paper, fixed=fixed), whether)

    def test_papers_spoilt(self):
        for relations in ([ONE_OF_THREE], [NOT_ALL_LIKE], [FOUR, UNLIKE], [HORN, ONE_OR_BOTH]):
            book = Book(relations)
            for fixed in (False, True):
                claim = side(book, fixed=fixed)
                if claim[0] == "all":
                    paper = side_paper(book, fixed=fixed)
                    for worse in spoilt(paper):
                        self.assert_holds(book, claim, worse, fixed, shows_all(book, worse, claim[1], fixed))

    def test_a_needed_pair_left_out(self):
        for relations in ([ONE_OF_THREE], [NOT_ALL_LIKE], [FOUR, UNLIKE]):
            book = Book(relations)
            for fixed in (False, True):
                claim, paper = side(book, fixed=fixed), self.without_needless(book, fixed)
                self.assert_holds(book, claim, paper, fixed, True)
                self.assert_holds(book, claim, paper + paper[:1], fixed, True)
                self.assert_holds(book, claim, paper[::-1], fixed, True)
                for k in range(len(paper)):
                    self.assert_holds(book, claim, paper[:k] + paper[k + 1:], fixed, False)
                self.assert_holds(book, claim, (), fixed, False)
                self.assert_holds(book, claim, list(paper), fixed, False)

    def without_needless(self, book, fixed):
        claim, paper = side(book, fixed=fixed), side_paper(book, fixed=fixed)
        for pair in paper:
            fewer = tuple(other for other in paper if other != pair)
            if shows_all(book, fewer, claim[1], fixed):
                paper = fewer
        return paper

    def test_a_pair_that_is_none(self):
        book = Book([ONE_OF_THREE, UNLIKE])
        paper = side_paper(book)
        rows = (UNLIKE.rows[0],) * 3
        self.assert_holds(book, ("all", 3), paper + ((1, rows),), False, True)
        for pair in ((2, rows), (-1, rows), (-2, rows), (True, rows), ("1", rows), (None, rows), (0, rows),
                     (1, list(rows)),
                     [1, rows], (1, rows, 0), (1,), (rows, 1), (1, rows[:2]), (1, rows + rows[:1]), (1, ()), (1, None),
                     (1, rows[:2] + ((0, 0),)), (1, rows[:2] + ((1, 1),)), (1, rows[:2] + ([0, 1],)),
                     (1, rows[:2] + ((False, 1),)), (1, rows[:2] + ((0, True),)), (1, rows[:2] + ((0, 1, 0),)),
                     (1, rows[:2] + (None,)), (1, rows[:2] + ("01",)), None, (), 0, "pair", book):
            self.assert_holds(book, ("all", 3), paper + (pair,), False, False)
            self.assert_holds(book, ("all", 3), (pair,) + paper, False, False)

    def test_another_claim(self):
        for relations, loose, fast in SIDES:
            book = Book(relations)
            for fixed, claim in ((False, loose), (True, fast)):
                paper = side_paper(book, fixed=fixed)
                self.assert_holds(book, claim, paper, fixed, True)
                for other in list(spoilt(claim)) + [("all", 3), ("all", 6), ("kept", ()), ("kept", claim[1]),
                                                    ("all", 0),
                                                    ("all", True), ("kept", ("and",)), "all", 3, None, [*claim]]:
                    self.assert_holds(book, other, paper, fixed, type(other) is tuple and other == claim)

    def test_kept_takes_the_empty_paper_alone(self):
        book = Book([UNLIKE])
        claim = ("kept", ("majority", "odd one"))
        self.assert_holds(book, claim, (), False, True)
        for paper in any_values() + [((0, (UNLIKE.rows[0],) * 3),), ((),), (None,)]:
            if paper != ():
                self.assert_holds(book, claim, paper, False, False)

    def test_any_value_at_all(self):
        for relations in ([UNLIKE], [ONE_OF_THREE], [NOT_ALL_LIKE]):
            book = Book(relations)
            for fixed in (False, True):
                claim, paper = side(book, fixed=fixed), side_paper(book, fixed=fixed)
                for value in any_values():
                    self.assert_holds(book, value, paper, fixed, False)
                    self.assert_holds(book, value, value, fixed, False)
                    if value != paper:
                        self.assert_holds(book, claim, value, fixed, False)
                        self.assert_holds(book, claim, (value,), fixed, False)

    def test_long_papers(self):
        every = [Relation(4, all_rows(4)), ONE_OF_THREE]
        book = Book(every)
        useless = tuple((0, rows) for rows in product(all_rows(4), repeat=3))
        paper = side_paper(book)
        self.assert_holds(book, ("all", 3), useless, False, False)
        self.assert_holds(book, ("all", 3), useless + paper + useless[:3600], False, True)
        self.assert_holds(book, ("all", 3), paper * 1500, False, True)


if __name__ == "__main__":
    unittest.main()
