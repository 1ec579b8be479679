"""Point [5], with [1] and [2]: the relations that a relation gives."""

import unittest
from itertools import product

from eightcells.errors import InvalidNumber, Undefined
from eightcells.relations import Relation
from tests.cases import Case
from tests.samples import any_values, nested, no_sequences

ONE_OF_THREE = ((0, 0, 1), (0, 1, 0), (1, 0, 0))
STEPS = ((0, 0, 0), (0, 0, 1), (0, 1, 1), (1, 1, 1))
FOUR = ((0, 0, 1, 1), (0, 1, 1, 0), (1, 1, 0, 1))


class ReadTest(Case):

    def assert_stays(self, relation, size, rows):
        self.assertEqual((relation.size, relation.rows), (size, rows))


class OppositeTest(ReadTest):

    def test_rows_worked_out_by_hand(self):
        for size, rows, opposite in [
                (1, ((0,),), ((1,),)),
                (1, ((0,), (1,)), ((0,), (1,))),
                (2, ((0, 0), (0, 1)), ((1, 0), (1, 1))),
                (2, ((0, 1), (1, 0)), ((0, 1), (1, 0))),
                (3, ONE_OF_THREE, ((0, 1, 1), (1, 0, 1), (1, 1, 0))),
                (3, STEPS, ((0, 0, 0), (1, 0, 0), (1, 1, 0), (1, 1, 1))),
                (4, FOUR, ((0, 0, 1, 0), (1, 0, 0, 1), (1, 1, 0, 0)))]:
            with self.subTest(rows=rows):
                relation = Relation(size, rows)
                made = relation.opposite()
                self.assertIs(type(made), Relation)
                self.assert_stays(made, size, opposite)
                self.assert_stays(relation, size, rows)
                self.assertEqual(made.opposite(), relation)


class ReadAtTest(ReadTest):

    def test_rows_worked_out_by_hand(self):
        for size, rows, places, read in [
                (1, ((1,),), [0], ((1,),)),
                (1, ((0,), (1,)), [0, 0], ((0, 0), (1, 1))),
                (1, ((0,), (1,)), [0, 0, 0, 0], ((0, 0, 0, 0), (1, 1, 1, 1))),
                (2, ((0, 1), (1, 1)), [1], ((1,),)),
                (2, ((0, 1), (1, 1)), [0], ((0,), (1,))),
                (2, ((0, 1), (1, 1)), [1, 0], ((1, 0), (1, 1))),
                (2, ((0, 1),), [1, 0, 1], ((1, 0, 1),)),
                (3, ONE_OF_THREE, [2, 1, 0], ONE_OF_THREE),
                (3, ONE_OF_THREE, [0, 1], ((0, 0), (0, 1), (1, 0))),
                (3, ONE_OF_THREE, [2, 2], ((0, 0), (1, 1))),
                (3, STEPS, [2, 0], ((0, 0), (1, 0), (1, 1))),
                (3, STEPS, [1, 0, 2, 1], ((0, 0, 0, 0), (0, 0, 1, 0), (1, 0, 1, 1), (1, 1, 1, 1))),
                (4, FOUR, [3], ((0,), (1,))),
                (4, FOUR, [3, 1], ((0, 1), (1, 0), (1, 1))),
                (4, FOUR, [3, 2, 1, 0], ((0, 1, 1, 0), (1, 0, 1, 1), (1, 1, 0, 0))),
                (4, FOUR, [1, 2, 1], ((0, 1, 0), (1, 0, 1), (1, 1, 1)))]:
            for passed in (places, tuple(places)):
                with self.subTest(rows=rows, places=passed):
                    relation = Relation(size, rows)
                    made = relation.read_at(passed)
                    self.assertIs(type(made), Relation)
                    self.assert_stays(made, len(places), read)
                    self.assert_stays(relation, size, rows)

    def test_a_list_of_places_stays_and_may_change_later(self):
        places = [2, 0]
        made = Relation(3, STEPS).read_at(places)
        self.assertEqual(places, [2, 0])
        places[0] = 1
        places.append(1)
        self.assert_stays(made, 2, ((0, 0), (1, 0), (1, 1)))

    def test_the_argument_by_name(self):
        self.assertEqual(Relation(2, [(0, 1)]).read_at(places=(1,)), Relation(1, [(1,)]))

    def assert_no_places(self, size, rows, places):
        relation = Relation(size, rows)
        with self.assertRaises(InvalidNumber) as told:
            relation.read_at(places)
        self.assertIs(told.exception.value, places)
        self.assert_stays(relation, size, rows)

    def test_wrong_places(self):
        wrong = [[], (), [0, 1, 2, 0, 1], (0,) * 5, [3], (3,), [0, 3], [3, 0], [10 ** 5000], [-1], (0, -1), [-3],
                 [True],
                 [False], [0, True], (False, 1), [None], (0, None), ["0"], [[0]], ((0,),), [(0, 1)], [0, [1]],
                 [Relation(1, [(0,)])], nested(30, list, 0), nested(30, tuple, 0)]
        for places in wrong + no_sequences() + [{0}, {0: 1}, range(2), iter([0]), b"\x00"]:
            self.assert_no_places(3, STEPS, places)

    def test_the_first_place_beyond_each_size(self):
        for size in (1, 2, 3, 4):
            rows = ((0,) * size, (1,) * size)
            self.assertEqual(Relation(size, rows).read_at([size - 1]).rows, ((0,), (1,)))
            self.assert_no_places(size, rows, [size])
            self.assert_no_places(size, rows, [0, size])


class AlikeTest(ReadTest):

    def test_rows_worked_out_by_hand(self):
        for size, rows, i, j, left in [
                (1, ((0,), (1,)), 0, 0, ((0,), (1,))),
                (2, ((0, 0), (0, 1), (1, 1)), 0, 1, ((0, 0), (1, 1))),
                (2, ((0, 1), (1, 1)), 0, 1, ((1, 1),)),
                (2, ((0, 1), (1, 0)), 1, 1, ((0, 1), (1, 0))),
                (3, ONE_OF_THREE, 0, 1, ((0, 0, 1),)),
                (3, ONE_OF_THREE, 0, 2, ((0, 1, 0),)),
                (3, ONE_OF_THREE, 1, 2, ((1, 0, 0),)),
                (3, ONE_OF_THREE, 2, 2, ONE_OF_THREE),
                (3, STEPS, 0, 1, ((0, 0, 0), (0, 0, 1), (1, 1, 1))),
                (4, FOUR, 0, 3, ((0, 1, 1, 0), (1, 1, 0, 1))),
                (4, FOUR, 2, 3, ((0, 0, 1, 1),))]:
            for first, second in ((i, j), (j, i)):
                with self.subTest(rows=rows, i=first, j=second):
                    relation = Relation(size, rows)
                    made = relation.alike(first, second)
                    self.assertIs(type(made), Relation)
                    self.assert_stays(made, size, left)
                    self.assert_stays(relation, size, rows)

    def test_arguments_by_name(self):
        relation = Relation(3, STEPS)
        self.assertEqual(relation.alike(j=1, i=0).rows, ((0, 0, 0), (0, 0, 1), (1, 1, 1)))
        self.assert_raises_with(InvalidNumber, "value", -1, lambda: relation.alike(j=9, i=-1))

    def test_no_place(self):
        relation = Relation(3, STEPS)
        wrong = [3, 4, -1, 10 ** 5000, True, False, None, "0", "", (0,), [0], relation] + any_values()
        for thing in wrong:
            if type(thing) is int and thing in (0, 1):
                continue
            for place in (0, 1, 2):
                self.assert_raises_with(InvalidNumber, "value", thing, relation.alike, thing, place)
                self.assert_raises_with(InvalidNumber, "value", thing, relation.alike, place, thing)
            self.assert_raises_with(InvalidNumber, "value", thing, relation.alike, thing, [7])
            self.assert_raises_with(InvalidNumber, "value", thing, relation.alike, thing, thing)
        self.assert_stays(relation, 3, STEPS)

    def test_the_first_place_beyond_each_size(self):
        for size in (1, 2, 3, 4):
            relation = Relation(size, [(0,) * size])
            self.assertEqual(relation.alike(size - 1, 0), relation)
            self.assert_raises_with(InvalidNumber, "value", size, relation.alike, size, 0)
            self.assert_raises_with(InvalidNumber, "value", size, relation.alike, 0, size)

    def test_no_row_is_left(self):
        for size, rows, i, j in [(2, ((0, 1), (1, 0)), 0, 1), (2, ((0, 1),), 1, 0), (3, ((0, 0, 1), (1, 0, 0)), 2, 0),
                                 (4, ((0, 1, 1, 1), (1, 0, 0, 0)), 0, 3)]:
            relation = Relation(size, rows)
            self.assert_raises_with(Undefined, "what", "relation", relation.alike, i, j)
            self.assert_stays(relation, size, rows)

    def test_a_wrong_place_is_told_ahead_of_no_rows(self):
        relation = Relation(2, [(0, 1)])
        self.assert_raises_with(InvalidNumber, "value", 2, relation.alike, 0, 2)
        self.assert_raises_with(InvalidNumber, "value", True, relation.alike, 0, True)


class BothTest(ReadTest):

    def test_rows_worked_out_by_hand(self):
        for size, rows, others, common in [
                (1, ((0,), (1,)), ((1,),), ((1,),)),
                (2, ((0, 0), (0, 1), (1, 1)), ((0, 1), (1, 0), (1, 1)), ((0, 1), (1, 1))),
                (2, ((0, 1), (1, 0)), ((0, 1), (1, 0)), ((0, 1), (1, 0))),
                (3, ONE_OF_THREE, STEPS, ((0, 0, 1),)),
                (3, STEPS, tuple(product((0, 1), repeat=3)), STEPS),
                (4, FOUR, ((0, 0, 1, 0), (0, 1, 1, 0), (1, 1, 0, 1), (1, 1, 1, 1)), ((0, 1, 1, 0), (1, 1, 0, 1)))]:
            with self.subTest(rows=rows, others=others):
                one, other = Relation(size, rows), Relation(size, others)
                for made in (one.both(other), other.both(one)):
                    self.assertIs(type(made), Relation)
                    self.assert_stays(made, size, common)
                self.assert_stays(one, size, rows)
                self.assert_stays(other, size, others)

    def test_a_relation_with_itself(self):
        relation = Relation(3, STEPS)
        self.assertEqual(relation.both(relation), relation)

    def test_the_argument_by_name(self):
        self.assertEqual(Relation(1, [(0,), (1,)]).both(other=Relation(1, [(1,)])), Relation(1, [(1,)]))

    def test_unlike_sizes(self):
        for size in (1, 2, 3, 4):
            for other_size in (1, 2, 3, 4):
                if size != other_size:
                    rows, others = ((0,) * size, (1,) * size), ((1,) * other_size,)
                    one, other = Relation(size, rows), Relation(other_size, others)
                    self.assert_raises_with(Undefined, "what", "size", one.both, other)
                    self.assert_stays(one, size, rows)
                    self.assert_stays(other, other_size, others)

    def test_no_common_row(self):
        for size in (1, 2, 3, 4):
            one, other = Relation(size, [(0,) * size]), Relation(size, [(1,) * size])
            self.assert_raises_with(Undefined, "what", "relation", one.both, other)
            self.assert_stays(one, size, ((0,) * size,))
            self.assert_stays(other, size, ((1,) * size,))


class BesideTest(ReadTest):

    def test_rows_worked_out_by_hand(self):
        for size, rows, other_size, others, made_rows in [
                (1, ((1,),), 1, ((0,),), ((1, 0),)),
                (1, ((0,), (1,)), 1, ((0,), (1,)), ((0, 0), (0, 1), (1, 0), (1, 1))),
                (2, ((0, 1),), 1, ((0,), (1,)), ((0, 1, 0), (0, 1, 1))),
                (1, ((0,), (1,)), 2, ((0, 1),), ((0, 0, 1), (1, 0, 1))),
                (2, ((0, 0), (1, 1)), 2, ((0, 1), (1, 0)), ((0, 0, 0, 1), (0, 0, 1, 0), (1, 1, 0, 1), (1, 1, 1, 0))),
                (3, ONE_OF_THREE, 1, ((1,),), ((0, 0, 1, 1), (0, 1, 0, 1), (1, 0, 0, 1))),
                (1, ((1,),), 3, ONE_OF_THREE, ((1, 0, 0, 1), (1, 0, 1, 0), (1, 1, 0, 0)))]:
            with self.subTest(rows=rows, others=others):
                one, other = Relation(size, rows), Relation(other_size, others)
                made = one.beside(other)
                self.assertIs(type(made), Relation)
                self.assert_stays(made, size + other_size, made_rows)
                self.assert_stays(one, size, rows)
                self.assert_stays(other, other_size, others)

    def test_a_relation_beside_itself(self):
        relation = Relation(2, [(0, 1), (1, 1)])
        self.assertEqual(relation.beside(relation).rows, ((0, 1, 0, 1), (0, 1, 1, 1), (1, 1, 0, 1), (1, 1, 1, 1)))

    def test_the_argument_by_name(self):
        self.assertEqual(Relation(1, [(0,)]).beside(other=Relation(1, [(1,)])), Relation(2, [(0, 1)]))

    def test_sizes_that_make_more_than_four(self):
        for size in (1, 2, 3, 4):
            for other_size in (1, 2, 3, 4):
                rows, others = ((0,) * size, (1,) * size), ((1,) * other_size,)
                one, other = Relation(size, rows), Relation(other_size, others)
                if size + other_size > 4:
                    self.assert_raises_with(Undefined, "what", "size", one.beside, other)
                else:
                    self.assertEqual(one.beside(other).size, size + other_size)
                self.assert_stays(one, size, rows)
                self.assert_stays(other, other_size, others)


class SameAnswerTest(ReadTest):

    def test_equal_calls_return_equal_results(self):
        one, other = Relation(2, [(0, 1), (1, 1)]), Relation(2, [(1, 1), (0, 0)])
        for call in (lambda: one.opposite(), lambda: one.read_at([1, 0]), lambda: one.alike(0, 1),
                     lambda: one.both(other), lambda: one.beside(other), lambda: one.has((0, 1))):
            self.assertEqual(call(), call())


if __name__ == "__main__":
    unittest.main()
