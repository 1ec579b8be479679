"""Points [10] and [11], with [1] and [2]: tables, what they keep, and the six deeds."""

import unittest
from itertools import product

from eightcells.books import Book
from eightcells.errors import InvalidTable, Undefined
from eightcells.relations import Relation
from eightcells.tables import blamed, break_of, is_table, kept_by, made_row, table_of, widened, worth_of
from tests.cases import Case
from tests.samples import any_values, is_all_plain, nested
from tests.worked_out import (
    all_rows, all_tables, deed_tables, drawing, drawn_book, first_break, keeps, made, words_kept)

UNLIKE = Relation(2, [(0, 1), (1, 0)])
RISING = Relation(2, [(0, 0), (0, 1), (1, 1)])
ONE_OF_THREE = Relation(3, [(0, 0, 1), (0, 1, 0), (1, 0, 0)])
ONE_OR_BOTH = Relation(2, [(0, 1), (1, 0), (1, 1)])
EVEN = Relation(3, [(0, 0, 0), (0, 1, 1), (1, 0, 1), (1, 1, 0)])
ALL_SIX = ("all no", "all yes", "and", "or", "majority", "odd one")


class IsTableTest(Case):

    def test_rows_of_each_length(self):
        for length in range(18):
            for value in ((0,) * length, (1,) * length, ((0, 1) * 9)[:length]):
                for m in range(1, 5):
                    self.assertIs(is_table(value, m), length == (None, 2, 4, 8, 16)[m])

    def test_all_tables_of_one_and_two_places(self):
        for m in (1, 2):
            for value in all_tables(m):
                self.assertIs(is_table(value, m), True)
                self.assertIs(is_table(list(value), m), False)
                self.assertIs(is_table(tuple(bool(member) for member in value), m), False)

    def test_a_member_that_is_no_value(self):
        for m in range(1, 5):
            good = (0, 1) * 2 ** (m - 1)
            for k in range(len(good)):
                for member in (True, False, None, 2, -1, "0", (0,), [0], 10 ** 5000, UNLIKE):
                    self.assertIs(is_table(good[:k] + (member,) + good[k + 1:], m), False)

    def test_any_value_at_all(self):
        for m in range(1, 5):
            for value in any_values() + [nested(30, tuple, (0, 1)), "01", {0: 0, 1: 1}]:
                self.assertIs(is_table(value, m), False)

    def test_arguments_by_name(self):
        self.assertIs(is_table(m=1, value=(0, 1)), True)


class WorthTest(Case):

    def test_worked_out_by_hand(self):
        for table, row, worth in [
                ((0, 1), (0,), 0), ((0, 1), (1,), 1), ((1, 0), (1,), 0), ((0, 1, 0, 0), (0, 1), 1),
                ((0, 1, 0, 0), (1, 0), 0),
                ((0, 0, 0, 0, 1, 0, 0, 0), (1, 0, 0), 1), ((0, 0, 0, 0, 1, 0, 0, 0), (0, 0, 1), 0),
                ((0,) * 13 + (1, 0, 0), (1, 1, 0, 1), 1), ((0,) * 13 + (1, 0, 0), (1, 0, 1, 1), 0)]:
            self.assertIs(type(worth_of(table, row)), int)
            self.assertEqual(worth_of(table, row), worth)

    def test_each_row_of_each_number_of_places(self):
        draw = drawing(101)
        for m in range(1, 5):
            table = tuple(draw.randint(0, 1) for _ in range(2 ** m))
            self.assertEqual([worth_of(table, row) for row in all_rows(m)], list(table))

    def test_arguments_by_name(self):
        self.assertEqual(worth_of(row=(1, 0), table=(0, 0, 1, 0)), 1)


class MadeRowTest(Case):

    def test_worked_out_by_hand(self):
        for table, rows, row in [
                ((1, 0), [(0, 1, 1)], (1, 0, 0)),
                ((0, 0), [(0, 1, 1)], (0, 0, 0)),
                ((0, 0, 0, 1), [(0, 0, 1, 1), (0, 1, 0, 1)], (0, 0, 0, 1)),
                ((0, 1, 0, 0), [(0, 0, 1, 1), (0, 1, 0, 1)], (0, 1, 0, 0)),
                ((0, 0, 0, 1, 0, 1, 1, 1), [(0, 0, 1), (0, 1, 0), (1, 1, 0)], (0, 1, 0)),
                ((0, 1, 1, 0, 1, 0, 0, 1), [(0, 0, 1), (0, 1, 0), (1, 1, 0)], (1, 0, 1)),
                ((0, 0, 0, 0, 0, 0, 1, 0) * 2, [(0,), (1,), (1,), (0,)], (1,)),
                ((0, 0, 0, 0, 0, 0, 1, 0) + (0,) * 8, [(0, 1), (1, 1), (1, 1), (0, 0)], (1, 0))]:
            for passed in (rows, tuple(rows)):
                self.assertTrue(is_all_plain(made_row(table, passed)))
                self.assertEqual(made_row(table, passed), row)

    def test_drawn_rows(self):
        draw = drawing(102)
        for _ in range(400):
            m, size = draw.randint(1, 4), draw.randint(1, 8)
            table = tuple(draw.randint(0, 1) for _ in range(2 ** m))
            rows = [tuple(draw.randint(0, 1) for _ in range(size)) for _ in range(m)]
            self.assertEqual(made_row(table, rows), made(table, rows))

    def test_the_rows_of_each_order_make_the_table(self):
        for table in all_tables(2):
            self.assertEqual(made_row(table, [(0, 0, 1, 1), (0, 1, 0, 1)]), table)

    def test_arguments_by_name(self):
        rows = [(0, 1), (1, 1)]
        self.assertEqual(made_row(rows=rows, table=(0, 0, 0, 1)), (0, 1))
        self.assertEqual(rows, [(0, 1), (1, 1)])


class BreakTest(Case):

    def assert_break(self, book, table):
        found = break_of(book, table)
        breaks = [(k, first_break(relation, table)) for k, relation in enumerate(book.relations)]
        expected = ([pair for pair in breaks if pair[1] is not None] + [None])[0]
        self.assertEqual(found, expected)
        self.assertTrue(found is None or is_all_plain(found))

    def test_worked_out_by_hand(self):
        book = Book([RISING, UNLIKE, ONE_OF_THREE])
        self.assertEqual(break_of(book, (0, 0)), (1, ((0, 1),)))
        self.assertEqual(break_of(book, (1, 0)), (0, ((0, 1),)))
        self.assertIsNone(break_of(book, (0, 1)))
        self.assertIsNone(break_of(book, (0, 0, 1, 1)))
        self.assertEqual(break_of(book, (0, 0, 0, 1)), (1, ((0, 1), (1, 0))))
        self.assertEqual(break_of(book, (0, 0, 0, 1, 0, 1, 1, 1)), (2, ((0, 0, 1), (0, 1, 0), (1, 0, 0))))
        self.assertEqual(break_of(Book([ONE_OF_THREE]), (1, 0)), (0, ((0, 0, 1),)))

    def test_all_tables_of_one_and_two_places(self):
        draw = drawing(103)
        for _ in range(60):
            book = drawn_book(draw)
            for table in all_tables(1) + all_tables(2):
                self.assert_break(book, table)

    def test_tables_of_three_places(self):
        draw = drawing(104)
        tables = all_tables(3)
        for _ in range(60):
            book = drawn_book(draw, most=draw.choice((2, 4, 8)))
            for table in draw.sample(tables, 12) + [table for _, table in deed_tables()]:
                self.assert_break(book, table)

    def test_tables_of_four_places(self):
        draw = drawing(105)
        for _ in range(40):
            book = drawn_book(draw, most=draw.choice((2, 3, 4)))
            self.assert_break(book, tuple(draw.randint(0, 1) for _ in range(16)))
            place = draw.randint(0, 3)
            self.assert_break(book, tuple(row[place] for row in all_rows(4)))
            self.assert_break(book, tuple(int(sum(row) >= 2) for row in all_rows(4)))

    def test_the_places_keep_every_book(self):
        book = Book([Relation(4, all_rows(4)[:15]), Relation(4, all_rows(4)[1:]), ONE_OF_THREE, UNLIKE, RISING, EVEN])
        for m in range(1, 5):
            for place in range(m):
                self.assertIsNone(break_of(book, tuple(row[place] for row in all_rows(m))))
        self.assertIsNone(break_of(Book([Relation(4, all_rows(4))] * 6), (0, 1, 1, 0) * 4))

    def test_arguments_by_name(self):
        self.assertEqual(break_of(table=(0, 0), book=Book([UNLIKE])), (0, ((0, 1),)))

    def test_what_is_no_table(self):
        book = Book([UNLIKE])
        wrong = [value for value in any_values()] + [
            (0,), (0, 1, 0), (0, 1) * 3, (0, 1) * 5, (0, 1) * 16, [0, 1], (0, True), (0, 2), (0, -1), ((0, 1), (0, 1)),
            (0, 1, 0, None), (0, 1, 0, "1"), "0101", (0,) * 15 + (True,), (0,) * 17, (0,) * 7 + ((0,),)]
        for table in wrong:
            self.assert_raises_with(InvalidTable, "value", table, break_of, book, table)


class TableOfTest(Case):

    def test_the_six(self):
        self.assertEqual([table_of(word) for word in ALL_SIX], [table for _, table in deed_tables()])
        self.assertEqual([table_of(word) for word in ALL_SIX], [
            (0, 0), (1, 1), (0, 0, 0, 1), (0, 1, 1, 1), (0, 0, 0, 1, 0, 1, 1, 1), (0, 1, 1, 0, 1, 0, 0, 1)])
        self.assertTrue(all(is_all_plain(table_of(word)) for word in ALL_SIX))
        self.assertEqual(table_of(word="and"), (0, 0, 0, 1))

    def test_any_other_value(self):
        for word in any_values() + ["And", "and ", " and", "no", "all", "all maybe", "odd", "oddone", "majority\n",
                                    ("and",),
                                    ["and"], {"and": 1}, ("all", "no"), (0, 0, 0, 1), "xor"]:
            self.assert_raises_with(Undefined, "what", "word", table_of, word)


class KeptTest(Case):

    def assert_kept(self, book):
        for named in ({}, {"fixed": False}, {"fixed": True}):
            words = kept_by(book, **named)
            self.assertTrue(is_all_plain(words))
            self.assertEqual(words, words_kept(book, named.get("fixed", False)))

    def test_worked_out_by_hand(self):
        for relations, words in [
                ([ONE_OR_BOTH], ("all yes", "or", "majority")),
                ([RISING], ("all no", "all yes", "and", "or", "majority")),
                ([UNLIKE], ("majority", "odd one")),
                ([EVEN], ("all no", "odd one")),
                ([ONE_OF_THREE], ()),
                ([Relation(1, [(0,)])], ("all no", "and", "or", "majority", "odd one")),
                ([Relation(1, [(0,), (1,)])], ALL_SIX),
                ([ONE_OR_BOTH, UNLIKE], ("majority",)),
                ([UNLIKE, RISING], ("majority",)),
                ([EVEN, ONE_OR_BOTH], ()),
                ([ONE_OF_THREE, RISING], ())]:
            self.assertEqual(kept_by(Book(relations)), words)
            fixed = tuple(word for word in words if word not in ("all no", "all yes"))
            self.assertEqual(kept_by(Book(relations), fixed=True), fixed)
            self.assert_kept(Book(relations))

    def test_each_relation_of_two_places(self):
        rows = all_rows(2)
        for chosen in product((0, 1), repeat=4):
            if any(chosen):
                self.assert_kept(Book([Relation(2, [row for row, taken in zip(rows, chosen) if taken])]))

    def test_drawn_books(self):
        draw = drawing(106)
        for _ in range(150):
            self.assert_kept(drawn_book(draw, most=draw.choice((2, 4, 9))))

    def test_fixed_is_passed_by_name_alone(self):
        with self.assertRaises(TypeError):
            kept_by(Book([UNLIKE]), True)
        self.assertEqual(kept_by(fixed=True, book=Book([EVEN])), ("odd one",))

    def test_large_relations(self):
        book = Book([Relation(4, all_rows(4)[:k] + all_rows(4)[k + 1:]) for k in range(6)])
        self.assertEqual(kept_by(book), tuple(word for word, table in deed_tables() if break_of(book, table) is None))
        self.assertEqual(kept_by(Book([Relation(4, all_rows(4))] * 6)), ALL_SIX)


class BlamedTest(Case):

    def assert_blamed(self, book):
        found = blamed(book)
        self.assertTrue(is_all_plain(found))
        expected = []
        for _, table in deed_tables():
            breaks = [(k, first_break(relation, table)) for k, relation in enumerate(book.relations)]
            expected.append(tuple(pair for pair in breaks if pair[1] is not None))
        self.assertEqual(found, tuple(expected))
        self.assertEqual([word for word, pairs in zip(ALL_SIX, found) if not pairs], list(words_kept(book)))

    def test_worked_out_by_hand(self):
        self.assertEqual(blamed(Book([Relation(1, [(0,), (1,)])])), ((), (), (), (), (), ()))
        self.assertEqual(blamed(Book(relations=[RISING, UNLIKE])), (
            ((1, ((0, 1),)),), ((1, ((0, 1),)),), ((1, ((0, 1), (1, 0))),), ((1, ((0, 1), (1, 0))),), (),
            ((0, ((0, 0), (0, 1), (1, 1))),)))
        twice = ((0, ((0, 0, 1),)), (1, ((0, 0, 1),)))
        self.assertEqual(blamed(book=Book([ONE_OF_THREE, ONE_OF_THREE]))[:2], (twice, twice))

    def test_drawn_books(self):
        draw = drawing(107)
        for _ in range(80):
            self.assert_blamed(drawn_book(draw, 6, most=draw.choice((2, 4, 9))))

    def test_books_that_keep_some_and_none(self):
        for relations in ([ONE_OF_THREE], [UNLIKE, RISING, EVEN], [RISING], [EVEN, UNLIKE], [ONE_OR_BOTH, ONE_OR_BOTH]):
            self.assert_blamed(Book(relations))


class WidenedTest(Case):

    def test_row_by_row(self):
        for places in (1, 2, 3):
            for table in all_tables(places):
                wide = widened(table)
                self.assertTrue(is_all_plain(wide))
                self.assertEqual(len(wide), 8)
                for row, worth in zip(all_rows(3), wide):
                    self.assertEqual(worth, table[all_rows(places).index(row[:places])])

    def test_worked_out_by_hand(self):
        self.assertEqual(widened((0, 1)), (0, 0, 0, 0, 1, 1, 1, 1))
        self.assertEqual(widened(table=(0, 0, 0, 1)), (0, 0, 0, 0, 0, 0, 1, 1))
        self.assertEqual(widened((0, 1, 1, 0, 1, 0, 0, 1)), (0, 1, 1, 0, 1, 0, 0, 1))


class SameAnswerTest(Case):

    def test_equal_calls_return_equal_results(self):
        book = Book([UNLIKE, RISING])
        self.assertEqual(keeps(book, (0, 1)), break_of(book, (0, 1)) is None)
        for call in (lambda: break_of(book, (1, 0)), lambda: kept_by(book), lambda: blamed(book)):
            self.assertEqual(call(), call())


if __name__ == "__main__":
    unittest.main()
