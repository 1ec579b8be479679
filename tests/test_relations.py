"""Point [5], with [1] and [2]: what a relation is made of, has and equals."""

import unittest
from itertools import product

from eightcells.books import Book
from eightcells.errors import InvalidRelation
from eightcells.relations import Relation
from tests.cases import Case
from tests.samples import any_values, nested, no_sequences

# Each as passed, with a row twice and in no order, and as it is kept.
MADE = [
    (1, [(1,), (1,)], ((1,),)),
    (1, [(1,), (0,), (1,)], ((0,), (1,))),
    (2, [(1, 0)], ((1, 0),)),
    (2, [(1, 1), (0, 1), (1, 0), (0, 1)], ((0, 1), (1, 0), (1, 1))),
    (3, [(1, 0, 0), (0, 0, 1), (0, 1, 0), (0, 0, 1)], ((0, 0, 1), (0, 1, 0), (1, 0, 0))),
    (4, [(1, 1, 1, 1), (0, 0, 0, 0), (1, 0, 1, 0), (1, 1, 1, 1), (0, 1, 1, 1)],
     ((0, 0, 0, 0), (0, 1, 1, 1), (1, 0, 1, 0), (1, 1, 1, 1))),
]


class MakingTest(unittest.TestCase):

    def test_size_and_rows(self):
        for size, rows, kept in MADE:
            for passed in (rows, tuple(rows), rows[::-1], tuple(rows[::-1])):
                with self.subTest(size=size, passed=passed):
                    relation = Relation(size, passed)
                    self.assertIs(type(relation.size), int)
                    self.assertEqual(relation.size, size)
                    self.assertEqual(relation.rows, kept)
                    self.assertIs(type(relation.rows), tuple)
                    self.assertEqual({type(row) for row in relation.rows}, {tuple})
                    self.assertEqual({type(value) for row in relation.rows for value in row}, {int})

    def test_len_is_how_many_rows(self):
        for size, rows, kept in MADE:
            self.assertEqual(len(Relation(size, rows)), len(kept))

    def test_a_relation_of_all_rows(self):
        for size in (1, 2, 3, 4):
            rows = tuple(product((0, 1), repeat=size))
            relation = Relation(size, rows[::-1] + rows)
            self.assertEqual(relation.rows, rows)
            self.assertEqual(len(relation), 2 ** size)

    def test_arguments_by_name(self):
        self.assertEqual(Relation(rows=[(0, 1)], size=2), Relation(2, [(0, 1)]))
        self.assertEqual(Relation(2, rows=((0, 1),)).rows, ((0, 1),))

    def test_a_list_changed_later_changes_nothing(self):
        rows = [(1, 0), (0, 1)]
        relation = Relation(2, rows)
        rows.append((1, 1))
        rows[0] = (0, 0)
        self.assertEqual((relation.size, relation.rows, len(relation)), (2, ((0, 1), (1, 0)), 2))
        self.assertFalse(relation.has((1, 1)))
        self.assertTrue(relation.has((1, 0)))

    def test_the_list_that_is_passed_stays(self):
        rows = [(1, 0), (0, 1), (1, 0)]
        Relation(2, rows)
        self.assertEqual(rows, [(1, 0), (0, 1), (1, 0)])

    def test_it_is_not_iterable(self):
        with self.assertRaises(TypeError):
            iter(Relation(1, [(0,)]))


class WrongRelationTest(unittest.TestCase):

    def assert_wrong(self, size, rows):
        with self.assertRaises(InvalidRelation) as told:
            Relation(size, rows)
        value = told.exception.value
        self.assertIs(type(value), tuple)
        self.assertEqual(len(value), 2)
        self.assertIs(value[0], size)
        self.assertIs(value[1], rows)

    def test_sizes(self):
        for size in (0, 5, 6, -1, -2, 10 ** 5000, -10 ** 5000, True, False, None, "2", "", (2,), [2],
                     Relation(2, [(0, 1)])):
            for rows in ([(0, 1)], ((0,), (1,)), [()], [(0,) * 5], []):
                self.assert_wrong(size, rows)

    def test_size_five_with_rows_of_five(self):
        self.assert_wrong(5, [(0, 1, 0, 1, 0)])

    def test_size_true_with_rows_of_one(self):
        self.assert_wrong(True, [(0,)])

    def test_no_rows(self):
        for size in (1, 2, 3, 4):
            self.assert_wrong(size, [])
            self.assert_wrong(size, ())

    def test_rows_that_are_no_sequence(self):
        for rows in no_sequences() + [{(0,)}, {(0,): 1}, iter([(0,)]), range(2), b"\x00\x01"]:
            self.assert_wrong(1, rows)
            self.assert_wrong(2, rows)

    def test_wrong_rows(self):
        wrong = [[0, 1], (0,), (0, 1, 0), (), (2, 0), (0, 2), (-1, 0), (0, -1), (True, 0), (0, True), (False, 1),
                 (1, False), (True, True), (None, 0), (0, None), ("0", "1"), "01", None, 0, 1, True,
                 (0, (1,)), ([0], 1), ((0, 1),), Relation(2, [(0, 1)]), nested(30, tuple, 0), nested(30, list, 0)]
        for row in wrong:
            for rows in ([row], (row,), [(0, 1), row], [row, (0, 1)], ((1, 1), row, (0, 0))):
                self.assert_wrong(2, rows)

    def test_a_row_with_bools_beside_the_like_row(self):
        self.assert_wrong(2, [(1, 0), (True, False)])
        self.assert_wrong(2, [(True, False), (1, 0)])

    def test_rows_of_another_size(self):
        for size in (1, 2, 3, 4):
            for other in (1, 2, 3, 4):
                if other != size:
                    self.assert_wrong(size, [(0,) * other])
                    self.assert_wrong(size, [(0,) * size, (0,) * other])

    def test_a_call_that_raises_changes_no_argument(self):
        rows = [(1, 0), (0, 1), (2, 0)]
        self.assert_wrong(2, rows)
        self.assertEqual(rows, [(1, 0), (0, 1), (2, 0)])


class HasTest(unittest.TestCase):

    def test_true_for_each_row_and_for_no_other_of_the_size(self):
        for size, rows, kept in MADE:
            relation = Relation(size, rows)
            for row in product((0, 1), repeat=size):
                with self.subTest(kept=kept, row=row):
                    self.assertIs(relation.has(row), row in kept)

    def test_any_value_at_all(self):
        for size in (2, 3, 4):
            relation = Relation(size, list(product((0, 1), repeat=size)))
            for value in any_values():
                self.assertIs(relation.has(value), False)

    def test_what_only_looks_like_a_row(self):
        relation = Relation(2, [(0, 1), (1, 1)])
        looks = [[0, 1], [1, 1], (False, True), (0, True), (False, 1), (True, True), (True, 1), (0,), (1,), (),
                 (0, 1, 1),
                 (0, 1, 0), "01", ("0", "1"), ((0, 1),), [(0, 1)], ((0, 1), (1, 1)), relation, Relation(2, [(0, 1)]),
                 Book([relation]), (relation, relation), (0, (1,)), (0, [1]), (0, 2), (0, -1), (-1, 1), (None, 1)]
        for value in looks:
            with self.subTest(value=repr(value)):
                self.assertIs(relation.has(value), False)

    def test_one_place(self):
        relation = Relation(1, [(1,)])
        self.assertIs(relation.has((1,)), True)
        for value in (1, True, "1", [1], (True,), (0,), (False,), ((1,),), (1, 1), (), nested(30, tuple, 1),
                      nested(30, list, 1), nested(29, tuple, [1])):
            self.assertIs(relation.has(value), False)

    def test_deep_values(self):
        relation = Relation(2, [(0, 1), (1, 0)])
        for depth in range(1, 41):
            for kind in (tuple, list):
                for inner in ((0, 1), 0, None, "01", relation):
                    value = nested(depth, kind, inner)
                    self.assertIs(relation.has(value), False)
                    self.assertIs(relation.has((0, value)), False)
                    self.assertIs(relation.has([value, 1]), False)

    def test_the_argument_by_name(self):
        self.assertIs(Relation(1, [(0,)]).has(row=(0,)), True)
        self.assertIs(Relation(1, [(0,)]).has(row=(1,)), False)

    def test_the_relation_stays(self):
        relation = Relation(2, [(0, 1), (1, 0)])
        for value in any_values():
            relation.has(value)
        self.assertEqual((relation.size, relation.rows), (2, ((0, 1), (1, 0))))


class EqualTest(Case):

    def test_the_same_size_and_rows(self):
        for size, rows, kept in MADE:
            self.assert_equal_is(Relation(size, rows), Relation(size, kept), True)
            self.assert_equal_is(Relation(size, rows[::-1]), Relation(size, rows + rows), True)

    def test_other_rows(self):
        one = Relation(2, [(0, 1), (1, 0)])
        for rows in ([(0, 1)], [(0, 1), (1, 1)], [(0, 0), (0, 1), (1, 0)], [(0, 0), (1, 1)]):
            self.assert_equal_is(one, Relation(2, rows), False)

    def test_another_size(self):
        for size in (1, 2, 3, 4):
            for other in (1, 2, 3, 4):
                self.assert_equal_is(Relation(size, [(0,) * size]), Relation(other, [(0,) * other]), size == other)

    def test_another_kind_of_thing(self):
        relation = Relation(2, [(0, 1), (1, 0)])
        things = [None, 2, True, "", ((0, 1), (1, 0)), [(0, 1), (1, 0)], (2, ((0, 1), (1, 0))), Book([relation]),
                  (relation,), [relation], nested(30, list, relation), nested(30, tuple, (0, 1))]
        for thing in things:
            self.assert_equal_is(relation, thing, False)


if __name__ == "__main__":
    unittest.main()
