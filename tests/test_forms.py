"""Points [20] and [21], with [1] and [2]: clauses, and the least relations that they say."""

import unittest
from itertools import combinations

from eightcells.errors import InvalidNumber, Undefined
from eightcells.forms import fulfils, if_clauses, least_kept, pair_clauses, sum_clauses, told_by
from eightcells.relations import Relation
from tests.cases import Case
from tests.samples import any_values, is_all_plain
from tests.worked_out import all_rows, closed, deed_tables, drawing, drawn_relation

ONE_OF_THREE = Relation(3, [(0, 0, 1), (0, 1, 0), (1, 0, 0)])
UNLIKE = Relation(2, [(0, 1), (1, 0)])


def rising_places(size):
    return [places for many in range(size + 1) for places in combinations(range(size), many)]


def clauses_of(size, kind):
    """All clauses of the kind."""
    if kind == "if":
        return [("if", places) for places in rising_places(size)] + [
            ("if", places, place) for places in rising_places(size) for place in range(size)]
    if kind == "pair":
        return [("pair", i, j, value, other) for i, j in combinations(range(size), 2)
                for value in (0, 1) for other in (0, 1)]
    return [("sum", places, bit) for places in rising_places(size) for bit in (0, 1)]


def fulfils_by_words(row, clause):
    if clause[0] == "if":
        some_no = 0 in [row[place] for place in clause[1]]
        return some_no or (len(clause) == 3 and row[clause[2]] == 1)
    if clause[0] == "pair":
        return (row[clause[1]], row[clause[2]]) != (clause[3], clause[4])
    return [row[place] for place in clause[1]].count(1) % 2 == clause[2]


def all_relations(sizes):
    for size in sizes:
        rows = all_rows(size)
        for mask in range(1, 2 ** len(rows)):
            yield Relation(size, [row for k, row in enumerate(rows) if mask >> k & 1])


def some_relations(seed, many):
    """All relations of one to three places, and drawn ones of four."""
    yield from all_relations((1, 2, 3))
    draw = drawing(seed)
    for k in range(many):
        yield drawn_relation(draw, 4, 1, 2 + k % 15)


class FulfilsTest(Case):

    def test_each_row_and_each_clause(self):
        for size in (1, 2, 3, 4):
            for kind in ("if", "pair", "sum"):
                for clause in clauses_of(size, kind):
                    for row in all_rows(size):
                        self.assertIs(fulfils(row, clause), fulfils_by_words(row, clause), (row, clause))

    def test_worked_out_by_hand(self):
        for row, clause, whether in (
                ((0, 1), ("if", (0,), 1), True), ((1, 1), ("if", (0,), 1), True), ((1, 0), ("if", (0,), 1), False),
                ((0, 0), ("if", (0,), 1), True), ((0,), ("if", ()), False), ((1,), ("if", ()), False),
                ((1,), ("if", (), 0), True), ((0,), ("if", (), 0), False), ((1, 1), ("if", (0, 1)), False),
                ((1, 0), ("if", (0, 1)), True), ((1, 0), ("pair", 0, 1, 1, 0), False),
                ((1, 1), ("pair", 0, 1, 1, 0), True), ((0, 0), ("pair", 0, 1, 1, 0), True),
                ((1, 0, 1), ("sum", (0, 2), 0), True), ((1, 0, 1), ("sum", (0, 2), 1), False),
                ((1, 1, 1), ("sum", (0, 1, 2), 1), True), ((1,), ("sum", (), 0), True), ((1,), ("sum", (), 1), False)):
            self.assertIs(fulfils(row, clause), whether)
        self.assertIs(fulfils(clause=("if", (0,), 1), row=(1, 0)), False)


class ToldByTest(Case):

    def assert_told(self, size, clauses):
        rows = [row for row in all_rows(size) if all(fulfils_by_words(row, clause) for clause in clauses)]
        for sequence in (list(clauses), tuple(clauses)):
            if rows:
                self.assertEqual(told_by(size, sequence), Relation(size, rows))
            else:
                self.assert_raises_with(Undefined, "what", "relation", told_by, size, sequence)
        return len(rows)

    def test_no_clauses_say_all_rows(self):
        for size in (1, 2, 3, 4):
            self.assertEqual(self.assert_told(size, ()), 2 ** size)

    def test_drawn_clauses(self):
        draw = drawing(2001)
        seen = {}
        for _ in range(600):
            size = draw.randint(1, 4)
            some = [clause for kind in ("if", "pair", "sum") for clause in clauses_of(size, kind)]
            many = self.assert_told(size, draw.sample(some, draw.randint(1, 4)))
            seen[many > 0] = seen.get(many > 0, 0) + 1
        self.assertGreater(min(seen.values()), 50)

    def test_worked_out_by_hand(self):
        self.assertEqual(told_by(2, [("if", (0,), 1)]).rows, ((0, 0), (0, 1), (1, 1)))
        self.assertEqual(told_by(3, [("sum", (0, 1), 1), ("if", (2,))]).rows, ((0, 1, 0), (1, 0, 0)))
        self.assertEqual(told_by(clauses=[("pair", 0, 1, 0, 0)], size=2).rows, ((0, 1), (1, 0), (1, 1)))
        self.assert_raises_with(Undefined, "what", "relation", told_by, 1, [("if", ())])
        self.assert_raises_with(Undefined, "what", "relation", told_by, 1, (("sum", (0,), 1), ("sum", (0,), 0)))

    def test_what_is_no_size(self):
        for size in [value for value in any_values() if type(value) is not int or value > 4 or value < 1] + [
                0, 5, -1, 17, True, False, None, "2", (2,), [2]]:
            for clauses in ((), [("if", ())], (("if", ()),)):
                self.assert_raises_with(InvalidNumber, "value", size, told_by, size, clauses)


class LeastKeptTest(Case):

    def test_against_rows_put_in_step_by_step(self):
        for word, _ in deed_tables():
            for relation in some_relations(2101, 40):
                found = least_kept(relation, word)
                self.assertIs(type(found), Relation)
                self.assertEqual(found, closed(relation, word))

    def test_worked_out_by_hand(self):
        self.assertEqual(least_kept(UNLIKE, "all no").rows, ((0, 0), (0, 1), (1, 0)))
        self.assertEqual(least_kept(UNLIKE, "all yes").rows, ((0, 1), (1, 0), (1, 1)))
        self.assertEqual(least_kept(UNLIKE, "majority"), UNLIKE)
        self.assertEqual(least_kept(ONE_OF_THREE, "and").rows, ((0, 0, 0),) + ONE_OF_THREE.rows)
        self.assertEqual(least_kept(ONE_OF_THREE, "majority").rows, ((0, 0, 0),) + ONE_OF_THREE.rows)
        self.assertEqual(least_kept(ONE_OF_THREE, "odd one").rows, ONE_OF_THREE.rows + ((1, 1, 1),))
        self.assertEqual(len(least_kept(word="or", relation=ONE_OF_THREE)), 7)

    def test_any_other_word(self):
        for word in any_values() + ["And", "and ", "all", "odd", "if", ("and",), ["and"], 2]:
            self.assert_raises_with(Undefined, "what", "word", least_kept, UNLIKE, word)


class ClausesTest(Case):

    def assert_says(self, relation, clauses, kind, word):
        self.assertIs(type(clauses), tuple)
        self.assertTrue(is_all_plain(clauses))
        allowed = clauses_of(relation.size, kind)
        for clause in clauses:
            self.assertIn(clause, allowed)
        self.assertEqual(told_by(relation.size, clauses), closed(relation, word))
        # What all rows fulfil of the kind says the same.
        fulfilled = [clause for clause in allowed if all(fulfils_by_words(row, clause) for row in relation.rows)]
        self.assertEqual(told_by(relation.size, fulfilled), closed(relation, word))

    def test_if_clauses(self):
        for relation in some_relations(2102, 120):
            self.assert_says(relation, if_clauses(relation), "if", "and")
        self.assertEqual(if_clauses(relation=Relation(2, all_rows(2))), ())

    def test_pair_clauses(self):
        for relation in some_relations(2103, 120):
            kind = "if" if relation.size == 1 else "pair"
            self.assert_says(relation, pair_clauses(relation), kind, "majority")
        self.assertEqual(set(pair_clauses(relation=UNLIKE)), {("pair", 0, 1, 0, 0), ("pair", 0, 1, 1, 1)})

    def test_sum_clauses(self):
        for relation in some_relations(2104, 120):
            self.assert_says(relation, sum_clauses(relation), "sum", "odd one")
            self.assertEqual(sum_clauses(relation), self.sums_tried(relation))

    def sums_tried(self, relation):
        """The only tuple of clauses that the point tells, of all tuples there are."""
        fulfilled = [("sum", places, bit) for places in sorted(rising_places(relation.size)) for bit in (0, 1)
                     if places and {sum(row[place] for place in places) % 2 for row in relation.rows} == {bit}]
        least = closed(relation, "odd one")
        found = []
        for many in range(relation.size + 1):
            for clauses in combinations(fulfilled, many):
                firsts = [places[0] for _, places, _ in clauses]
                rise = all(one < other for one, other in zip(firsts, firsts[1:]))
                alone = all([place in places for _, places, _ in clauses].count(True) == 1 for place in firsts)
                if rise and alone and told_by(relation.size, clauses) == least:
                    found.append(clauses)
        self.assertEqual(len(found), 1)
        return found[0]

    def test_sums_worked_out_by_hand(self):
        self.assertEqual(sum_clauses(ONE_OF_THREE), (("sum", (0, 1, 2), 1),))
        self.assertEqual(sum_clauses(UNLIKE), (("sum", (0, 1), 1),))
        self.assertEqual(sum_clauses(Relation(2, [(1, 0)])), (("sum", (0,), 1), ("sum", (1,), 0)))
        self.assertEqual(sum_clauses(Relation(3, [(0, 0, 0), (1, 1, 1)])), (("sum", (0, 2), 0), ("sum", (1, 2), 0)))
        self.assertEqual(sum_clauses(Relation(4, [(0, 1, 0, 0), (1, 1, 0, 1)])),
                         (("sum", (0, 3), 0), ("sum", (1,), 1), ("sum", (2,), 0)))
        self.assertEqual(sum_clauses(relation=Relation(3, all_rows(3))), ())


if __name__ == "__main__":
    unittest.main()
