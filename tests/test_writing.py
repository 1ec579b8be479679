"""Points [22] and [23], with [1], [2] and [4]: what a book writes, and what it does not."""

import unittest

from eightcells.books import Book
from eightcells.eight import deed_puzzle, side
from eightcells.errors import InvalidRelation, Undefined
from eightcells.papers import none_holds
from eightcells.puzzles import fillings
from eightcells.relations import Relation
from eightcells.writing import least_written, written_claim, written_holds, written_paper, writes
from tests.cases import Case
from tests.judge import shows
from tests.samples import any_values, is_all_plain, no_sequences, spoilt
from tests.worked_out import (
    all_fillings, all_rows, all_tables, drawing, drawn_book, drawn_book_kept, drawn_relation, first_break, keeps, made,
    words_kept)

NO = Relation(1, [(0,)])
YES = Relation(1, [(1,)])
BOTH = Relation(1, [(0,), (1,)])
UNLIKE = Relation(2, [(0, 1), (1, 0)])
RISING = Relation(2, [(0, 0), (0, 1), (1, 1)])
ONE_OF_THREE = Relation(3, [(0, 0, 1), (0, 1, 0), (1, 0, 0)])
NOT_ALL_LIKE = Relation(3, all_rows(3)[1:7])
EVEN = Relation(3, [(0, 0, 0), (0, 1, 1), (1, 0, 1), (1, 1, 0)])
WORDS = ("all no", "all yes", "and", "or", "majority", "odd one", None)


def rows_made(book, rows):
    """What the tables that keep the book make of the rows: the rows of the least relation with them."""
    return sorted({made(table, rows) for table in all_tables(len(rows)) if keeps(book, table)})


def starts_of_others(relation):
    """For each row that is none of the relation's the start that gives its values, None if a cell gets two."""
    cells = [sum(value << k for k, value in enumerate(values[::-1])) for values in zip(*relation.rows)]
    found = []
    for row in all_rows(relation.size):
        if row not in relation.rows:
            pairs = sorted(set(zip(cells, row)))
            found.append(tuple(pairs) if len(pairs) == len(set(cells)) else None)
    return found


def shows_written(book, relation, claim, paper):
    """Whether the claim is one of the two and the paper such a paper of it, by the words of the point."""
    if claim == ("broken",):
        many = len(relation)
        return (type(paper) is tuple and len(paper) == 2 ** many and is_all_plain(paper) and set(paper) <= {0, 1}
                and keeps(book, paper) and made(paper, relation.rows) not in relation.rows)
    starts = starts_of_others(relation)
    if claim != ("written",) or type(paper) is not tuple or len(paper) != len(starts):
        return False
    puzzle = deed_puzzle(book, len(relation))
    return all(part == () if start is None else shows(puzzle, dict(start), part)
               for start, part in zip(starts, paper))


def small_book(draw, word, many_rows):
    """A drawn book for the deed that is small enough for so many rows."""
    most = {1: 16, 2: 16, 3: 8, 4: 5}[many_rows]
    while True:
        book = drawn_book_kept(draw, word, 2, sizes=(2, 3) if word else (2, 3, 3), least=1, most=min(most, 5))
        if max(len(relation) for relation in book.relations) <= most:
            return book


class LeastWrittenTest(Case):

    def assert_least(self, book, rows):
        for sequence in (list(rows), tuple(rows)):
            found = least_written(book, sequence)
            self.assertEqual(found, Relation(len(rows[0]), rows_made(book, rows)))
        for row in rows:
            self.assertTrue(found.has(row))
        return found

    def test_worked_out_by_hand(self):
        self.assertEqual(least_written(Book([UNLIKE]), [(0, 0, 1)]).rows, ((0, 0, 1), (1, 1, 0)))
        self.assertEqual(least_written(Book([RISING]), [(0, 1), (1, 0)]).rows, tuple(all_rows(2)))
        self.assertEqual(least_written(Book([NO]), [(1, 1), (1, 0)]).rows, ((0, 0), (0, 1), (1, 0), (1, 1)))
        self.assertEqual(least_written(Book([NO]), [(1, 1)]).rows, ((0, 0), (1, 1)))
        self.assertEqual(least_written(Book([ONE_OF_THREE]), [(0, 1), (1, 0)]), UNLIKE)
        self.assertEqual(least_written(Book([NOT_ALL_LIKE]), [(0, 0)]).rows, ((0, 0), (1, 1)))
        self.assertEqual(least_written(Book([EVEN]), [(0, 1, 1), (1, 0, 1)]).rows,
                         ((0, 0, 0), (0, 1, 1), (1, 0, 1), (1, 1, 0)))
        self.assertEqual(least_written(Book([EVEN, YES]), ONE_OF_THREE.rows).rows, ONE_OF_THREE.rows + ((1, 1, 1),))

    def test_drawn_books_with_one_to_three_rows(self):
        draw = drawing(221)
        seen = set()
        for word in WORDS:
            for k in range(12):
                rows = [draw.choice(all_rows(size)) for size in [draw.randint(1, 4)] for _ in range(1 + k % 3)]
                book = small_book(draw, word, len(rows))
                seen.add(len(self.assert_least(book, rows)) > len(set(rows)))
        self.assertEqual(seen, {False, True})

    def test_four_rows(self):
        draw = drawing(222)
        for word in ("and", "odd one", None, "all no"):
            book = small_book(draw, word, 4)
            rows = draw.sample(all_rows(3), 4)
            found = least_written(book, rows)
            kept = fillings(deed_puzzle(book, 4))
            self.assertEqual(found.rows, tuple(sorted({made(table, rows) for table in kept})))

    def test_large_books(self):
        draw = drawing(223)
        for rows, most in (([(0, 0, 1), (0, 1, 0), (1, 0, 0)], 8), (all_rows(4)[3:7], 5)):
            relations = [drawn_relation(draw, 4, most, most) for _ in range(6)]
            for book in (Book(relations), Book(relations[:1] * 6)):
                kept = fillings(deed_puzzle(book, len(rows)))
                self.assertEqual(least_written(book, rows).rows, tuple(sorted({made(table, rows) for table in kept})))
        self.assertEqual(len(least_written(Book([BOTH]), [(0, 0, 1, 1), (0, 1, 0, 1), (1, 0, 0, 1), (1, 1, 1, 0)])), 16)
        self.assertEqual(len(least_written(Book([Relation(4, all_rows(4))] * 6), [(0, 1, 1), (1, 0, 1)])), 8)

    def test_rows_twice(self):
        draw = drawing(224)
        for word in WORDS:
            book = small_book(draw, word, 3)
            one, other = draw.sample(all_rows(3), 2)
            once = self.assert_least(book, [one, other])
            self.assertEqual(self.assert_least(book, [one, other, one]), once)
            self.assertEqual(self.assert_least(book, [other, other, one]), once)
            self.assertEqual(self.assert_least(book, [one, one]), self.assert_least(book, [one]))

    def test_it_is_within_each_relation_with_the_rows_that_the_book_writes(self):
        draw = drawing(225)
        for word in WORDS:
            book = small_book(draw, word, 2)
            for rows in ([(0, 1)], [(0, 1), (1, 1)], [(1, 0), (0, 1)]):
                least = least_written(book, rows)
                for mask in range(1, 16):
                    other = Relation(2, [row for k, row in enumerate(all_rows(2)) if mask >> k & 1])
                    if all(other.has(row) for row in rows) and written_claim(book, other) == ("written",):
                        self.assertTrue(set(least.rows) <= set(other.rows))
                self.assertEqual(written_claim(book, least), ("written",))

    def test_arguments_by_name(self):
        self.assertEqual(least_written(rows=[(0, 1)], book=Book([UNLIKE])), UNLIKE)

    def test_what_are_no_rows(self):
        wrong = no_sequences() + [
            [], (), [(0,)] * 5, ((0, 1),) * 5, [()], [(), ()], [(0,), (0, 1)], [(0, 1), (0,)], [[0, 1]], [(0, 2)],
            [(0, True)], [(0, 1), (False, 1)], [None], ["01"], [(0, 0, 0, 0, 0)], ((0, 1), [0, 1]), [(0, None)],
            [0, 1], (0, 1), [((0,),)], [(0, -1)]]
        for rows in wrong:
            for book in (Book([UNLIKE]), Book([ONE_OF_THREE])):
                self.assert_raises_with(InvalidRelation, "value", rows, least_written, book, rows)


class WrittenTest(Case):

    def assert_written(self, book, relation):
        claim, paper = written_claim(book, relation), written_paper(book, relation)
        self.assertTrue(is_all_plain(claim) and is_all_plain(paper))
        expected = rows_made(book, relation.rows) == list(relation.rows)
        self.assertEqual(claim, ("written",) if expected else ("broken",))
        self.assertTrue(shows_written(book, relation, claim, paper))
        self.assertIs(written_holds(book, relation, claim, paper), True)
        self.assertEqual(written_paper(book, relation), paper)
        return claim[0]

    def drawn_pair(self, draw, word, k):
        relation = drawn_relation(draw, draw.randint(1, 4), 1, 1 + k % 3)
        return small_book(draw, word, len(relation)), relation

    def test_drawn_books(self):
        draw = drawing(231)
        seen = []
        for word in WORDS:
            for k in range(20):
                seen.append(self.assert_written(*self.drawn_pair(draw, word, k)))
        self.assertGreater(min(seen.count("written"), seen.count("broken")), 30)

    def test_worked_out_by_hand(self):
        for book, relation, word in (
                ([UNLIKE], UNLIKE, "written"), ([UNLIKE], NO, "broken"), ([RISING], RISING, "written"),
                ([RISING, YES], YES, "written"), ([RISING, YES], NO, "broken"), ([ONE_OF_THREE], NO, "written"),
                ([ONE_OF_THREE], ONE_OF_THREE.opposite(), "written"), ([NOT_ALL_LIKE], NO, "broken"),
                ([NOT_ALL_LIKE], UNLIKE, "written"), ([NOT_ALL_LIKE], RISING, "broken"), ([EVEN], EVEN, "broken"),
                ([NO], NO, "written"), ([NO], YES, "broken"), ([BOTH], BOTH, "written")):
            if len(relation) < 4:
                self.assertEqual(self.assert_written(Book(book), relation), word)
        self.assertEqual(written_claim(Book([EVEN]), EVEN), ("written",))
        self.assertEqual(written_paper(Book([BOTH]), BOTH), ())

    def test_four_rows(self):
        four = Relation(4, [(0, 0, 1, 1), (0, 1, 0, 1), (1, 0, 0, 1), (1, 1, 1, 0)])
        for book in (Book([EVEN]), Book([ONE_OF_THREE]), Book([RISING, UNLIKE]), Book([NOT_ALL_LIKE.both(EVEN)])):
            for relation in (four, EVEN, Relation(2, all_rows(2))):
                claim, paper = written_claim(book, relation), written_paper(book, relation)
                self.assertTrue(shows_written(book, relation, claim, paper))
                self.assertIs(written_holds(book, relation, claim, paper), True)
        self.assertEqual(written_claim(Book([EVEN]), four), ("broken",))
        self.assertEqual(written_claim(Book([ONE_OF_THREE]), four), ("written",))

    def test_a_cell_that_would_get_two_values(self):
        # Places 0 and 2 read the same cell of the deed puzzle.
        relation = Relation(3, [(0, 1, 0), (1, 0, 1)])
        paper = written_paper(Book([UNLIKE]), relation)
        self.assertEqual([part == () for part in paper], [start is None for start in starts_of_others(relation)])
        self.assertEqual([part == () for part in paper], [False, True, True, True, True, False])
        self.assertEqual(self.assert_written(Book([UNLIKE]), relation), "written")

    def test_more_than_four_rows(self):
        for relation in (Relation(3, all_rows(3)[:5]), NOT_ALL_LIKE, Relation(4, all_rows(4))):
            for book in (Book([UNLIKE]), Book([ONE_OF_THREE])):
                self.assert_raises_with(Undefined, "what", "rows", written_claim, book, relation)
                self.assert_raises_with(Undefined, "what", "rows", written_paper, book, relation)
                for claim in (("written",), ("broken",), None):
                    self.assert_raises_with(Undefined, "what", "rows", written_holds, book, relation, claim, ())

    def test_arguments_by_name(self):
        self.assertEqual(written_claim(relation=NO, book=Book([UNLIKE])), ("broken",))
        self.assertEqual(written_paper(relation=NO, book=Book([UNLIKE])), (1, 0))
        self.assertIs(written_holds(paper=(1, 0), claim=("broken",), relation=NO, book=Book([UNLIKE])), True)


class WrittenHoldsTest(Case):

    def assert_judged(self, book, relation, claim, paper):
        whether = shows_written(book, relation, claim, paper)
        self.assertIs(written_holds(book, relation, claim, paper), whether)
        return whether

    def test_claims_and_papers_spoilt(self):
        draw = drawing(232)
        wrong = {"written": 0, "broken": 0}
        for word in WORDS:
            for k in range(6):
                relation = drawn_relation(draw, draw.randint(1, 3), 1, 1 + k % 3)
                book = small_book(draw, word, len(relation))
                claim, paper = written_claim(book, relation), written_paper(book, relation)
                other = ("broken",) if claim == ("written",) else ("written",)
                self.assertIs(written_holds(book, relation, other, paper), False)
                for worse in spoilt(claim):
                    self.assertIs(written_holds(book, relation, worse, paper), False)
                worse = list(spoilt(paper))
                for spoilt_paper in draw.sample(worse, min(150, len(worse))):
                    wrong[claim[0]] += not self.assert_judged(book, relation, claim, spoilt_paper)
        self.assertGreater(min(wrong.values()), 500)

    def test_each_table(self):
        for book in (Book([UNLIKE]), Book([RISING]), Book([EVEN]), Book([NO])):
            for relation in (UNLIKE, RISING.both(UNLIKE), Relation(3, [(0, 1, 1), (1, 0, 1)])):
                for m in (1, 2, 3):
                    for table in all_tables(m):
                        self.assert_judged(book, relation, ("broken",), table)

    def test_papers_left_out_doubled_and_exchanged(self):
        book = Book([ONE_OF_THREE])
        paper = written_paper(book, ONE_OF_THREE)
        self.assertIs(written_holds(book, ONE_OF_THREE, ("written",), paper), True)
        for k in range(len(paper)):
            for worse in (paper[:k] + paper[k + 1:], paper[:k] + paper[k:k + 1] + paper[k:],
                          paper[:k] + ((),) + paper[k + 1:], paper[:k] + (list(paper[k]),) + paper[k + 1:]):
                self.assertIs(written_holds(book, ONE_OF_THREE, ("written",), worse), False)
        self.assert_judged(book, ONE_OF_THREE, ("written",), paper[::-1])
        self.assertIs(written_holds(book, ONE_OF_THREE, ("written",), list(paper)), False)
        self.assertIs(written_holds(book, ONE_OF_THREE, ["written"], paper), False)
        self.assertIs(written_holds(Book([UNLIKE]), NO, ("broken",), (True, False)), False)
        self.assertIs(written_holds(Book([UNLIKE]), NO, ("broken",), [1, 0]), False)
        self.assertIs(written_holds(Book([UNLIKE]), NO, ("broken",), (0, 1)), False)
        self.assertIs(written_holds(Book([UNLIKE]), NO, ("broken",), (1, 1)), False)

    def test_any_value_at_all(self):
        for book, relation in ((Book([UNLIKE]), NO), (Book([ONE_OF_THREE]), NO)):
            claim, paper = written_claim(book, relation), written_paper(book, relation)
            for value in any_values():
                self.assertIs(written_holds(book, relation, value, paper), False)
                self.assertIs(written_holds(book, relation, claim, value), False)
                self.assertIs(written_holds(book, relation, claim, (value,)), False)


class WritesTest(Case):

    def test_books_that_one_of_the_six_keeps(self):
        draw = drawing(233)
        seen = []
        for word in WORDS[:6]:
            for _ in range(12):
                one = small_book(draw, word, 3)
                other = drawn_book(draw, 3, (1, 2, 3), 1, 2)
                expected = all(rows_made(one, relation.rows) == list(relation.rows) for relation in other.relations)
                self.assertIs(writes(one, other), expected)
                seen.append(expected)
        self.assertGreater(min(seen.count(True), seen.count(False)), 10)
        self.assertIs(writes(Book([UNLIKE]), Book([UNLIKE, NO])), False)
        self.assertIs(writes(Book([NO]), Book([UNLIKE])), False)
        self.assertIs(writes(Book([RISING, UNLIKE]), Book([UNLIKE, RISING, Relation(2, all_rows(2))])), True)

    def test_a_book_that_writes_all(self):
        draw = drawing(234)
        larger = Book([Relation(4, all_rows(4)[:k] + all_rows(4)[k + 1:]) for k in (15, 0, 3, 5, 7, 9)])
        for one in (Book([ONE_OF_THREE]), Book([NOT_ALL_LIKE, NO]), larger):
            self.assertEqual(side(one), ("all", 3))
            for _ in range(20):
                self.assertIs(writes(one, drawn_book(draw, 6)), True)

    def test_a_book_that_writes_what_turning_keeps(self):
        draw = drawing(235)
        seen = []
        for one in (Book([NOT_ALL_LIKE]), Book([Relation(4, all_rows(4)[1:15]), UNLIKE])):
            self.assertEqual(side(one), ("all", 6))
            for k in range(40):
                relations = drawn_book(draw, 2).relations
                if k % 2:
                    relations = [Relation(relation.size, relation.rows + relation.opposite().rows)
                                 for relation in relations]
                expected = all(first_break(relation, (1, 0)) is None for relation in relations)
                self.assertIs(writes(one, Book(relations)), expected)
                seen.append(expected)
        self.assertGreater(min(seen.count(True), seen.count(False)), 20)

    def test_more_than_four_rows(self):
        for one in (Book([UNLIKE]), Book([NO]), Book([EVEN, RISING])):
            for other in (Book([NOT_ALL_LIKE]), Book([NO, Relation(3, all_rows(3)[:5])]), Book([UNLIKE, NOT_ALL_LIKE])):
                self.assertNotEqual(words_kept(one), ())
                self.assert_raises_with(Undefined, "what", "rows", writes, one, other)
        self.assertIs(writes(Book([UNLIKE]), Book([Relation(2, all_rows(2))])), True)

    def test_arguments_by_name(self):
        self.assertIs(writes(other=Book([NO]), one=Book([ONE_OF_THREE])), True)
        self.assertIs(writes(other=Book([ONE_OF_THREE]), one=Book([NO])), False)


class JudgedTest(Case):

    def test_the_papers_are_of_the_deed_puzzle(self):
        # What the papers refuse is what no filling of the deed puzzle reads.
        book = Book([RISING, YES])
        puzzle = deed_puzzle(book, 3)
        for start, part in zip(starts_of_others(RISING), written_paper(book, RISING)):
            self.assertIs(none_holds(puzzle, start, part), True)
            self.assertEqual(all_fillings(puzzle, start), ())


if __name__ == "__main__":
    unittest.main()
