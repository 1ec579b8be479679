"""Point [6], with [1] and [2]: books."""

import unittest

from eightcells.books import Book
from eightcells.errors import InvalidBook
from eightcells.relations import Relation
from tests.cases import Case
from tests.samples import any_values, no_sequences


def some_relations():
    return [Relation(1, [(0,)]), Relation(2, [(0, 1), (1, 0)]), Relation(3, [(0, 0, 1), (0, 1, 0), (1, 0, 0)]),
            Relation(4, [(1, 1, 1, 1)]), Relation(2, [(0, 0), (1, 1)]), Relation(1, [(0,), (1,)])]


class MakingTest(unittest.TestCase):

    def test_one_to_six_relations(self):
        for many in range(1, 7):
            relations = some_relations()[:many]
            for passed in (relations, tuple(relations)):
                book = Book(passed)
                self.assertIs(type(book.relations), tuple)
                self.assertEqual(book.relations, tuple(relations))
                self.assertEqual(len(book), many)

    def test_like_relations_stay_apart(self):
        relation = Relation(2, [(0, 1)])
        for relations in ([relation] * 6, [relation, Relation(2, [(0, 1)])]):
            self.assertEqual(Book(relations).relations, tuple(relations))
            self.assertEqual(len(Book(relations)), len(relations))

    def test_the_order_stays(self):
        relations = some_relations()[::-1]
        self.assertEqual([relation.rows for relation in Book(relations).relations],
                         [relation.rows for relation in relations])

    def test_the_argument_by_name(self):
        self.assertEqual(Book(relations=some_relations()), Book(some_relations()))

    def test_a_list_changed_later_changes_nothing(self):
        relations = some_relations()[:2]
        book = Book(relations)
        relations.append(Relation(1, [(1,)]))
        relations[0] = None
        self.assertEqual(book.relations, tuple(some_relations()[:2]))
        self.assertEqual(len(book), 2)

    def test_the_list_that_is_passed_stays(self):
        relations = some_relations()
        Book(relations)
        self.assertEqual(relations, some_relations())

    def test_it_is_not_iterable(self):
        with self.assertRaises(TypeError):
            iter(Book(some_relations()))


class WrongBookTest(unittest.TestCase):

    def assert_wrong(self, relations):
        with self.assertRaises(InvalidBook) as told:
            Book(relations)
        self.assertIs(told.exception.value, relations)

    def test_none_and_seven(self):
        for relations in ([], some_relations() + [Relation(1, [(1,)])], [Relation(1, [(0,)])] * 7,
                          [Relation(1, [(0,)])] * 100):
            self.assert_wrong(relations)
            self.assert_wrong(tuple(relations))

    def test_no_sequence(self):
        relation = Relation(1, [(0,)])
        for relations in no_sequences() + [{1: relation}, iter([relation]), range(1, 2)]:
            self.assert_wrong(relations)

    def test_a_member_that_is_no_relation(self):
        good = Relation(2, [(0, 1)])
        wrong = [thing for thing in any_values() if not isinstance(thing, Relation)]
        for member in wrong + [(2, ((0, 1),)), Book([good]), [good], (good,)]:
            for relations in ([member], (member,), [good, member], (member, good), [good, member, good]):
                self.assert_wrong(relations)

    def test_a_call_that_raises_changes_no_argument(self):
        relations = [Relation(1, [(0,)]), None]
        self.assert_wrong(relations)
        self.assertEqual(relations, [Relation(1, [(0,)]), None])


class EqualTest(Case):

    def test_equal_relations_in_the_same_order(self):
        for many in range(1, 7):
            self.assert_equal_is(Book(some_relations()[:many]), Book(tuple(some_relations()[:many])), True)
        self.assert_equal_is(Book([Relation(2, [(1, 0), (0, 1)])]), Book([Relation(2, [(0, 1), (1, 0), (0, 1)])]), True)

    def test_another_order(self):
        self.assert_equal_is(Book(some_relations()), Book(some_relations()[::-1]), False)

    def test_other_relations(self):
        one = Book([Relation(1, [(0,)]), Relation(1, [(0,)])])
        for relations in ([Relation(1, [(0,)])], [Relation(1, [(0,)])] * 3, [Relation(1, [(0,)]), Relation(1, [(1,)])],
                          [Relation(1, [(0,)]), Relation(2, [(0, 0)])]):
            self.assert_equal_is(one, Book(relations), False)

    def test_another_kind_of_thing(self):
        relation = Relation(1, [(0,)])
        book = Book([relation])
        for thing in any_values() + [relation, (relation,), [relation], (book,)]:
            if type(thing) is not Book:
                self.assert_equal_is(book, thing, False)


if __name__ == "__main__":
    unittest.main()
