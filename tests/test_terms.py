"""Point [12], with [1] and [2]: terms, and the deed that each table of three places gives."""

import unittest

from eightcells.errors import InvalidTable, Undefined
from eightcells.terms import is_plain, term_holds, term_of, term_table
from tests.cases import Case
from tests.samples import any_values, is_all_plain, nested, spoilt
from tests.worked_out import DEEDS, all_rows, all_tables, drawing

TABLES = all_tables(3)
PLACES = [tuple(row[place] for row in all_rows(3)) for place in range(3)]
PLAIN = PLACES + [tuple(1 - value for value in table) for table in PLACES]
# What each word's table tells row by row, looking at the first places alone.
WIDE = {word: tuple(deed(row[:places]) for row in all_rows(3)) for word, places, deed in DEEDS}
MAJORITY = (0, 0, 0, 1, 0, 1, 1, 1)


def worked_out(table, term):
    """The table that the term tells, row by row."""
    return tuple(worth_at(table, term, row) for row in all_rows(3))


def worth_at(table, term, row):
    if type(term) is int:
        return row[term]
    return table[all_rows(3).index(tuple(worth_at(table, part, row) for part in term))]


def depth(term):
    return 0 if type(term) is int else 1 + max(depth(part) for part in term)


def place_count(term):
    return 1 if type(term) is int else sum(place_count(part) for part in term)


def is_term(thing):
    if type(thing) is int:
        return thing in (0, 1, 2)
    return type(thing) is tuple and len(thing) == 3 and all(is_term(part) for part in thing) and depth(thing) <= 12


def is_right(table, claim):
    """Whether the claim is such a pair, by the words of the point."""
    if type(claim) is not tuple or len(claim) != 2:
        return False
    word, term = claim
    if type(word) is not str or word not in WIDE or not is_term(term) or place_count(term) > 1000:
        return False
    return worked_out(table, term) == WIDE[word]


def deep_term(levels, kind=tuple, inner=0):
    term = inner
    for _ in range(levels):
        term = kind((term, 1, 2))
    return term


def full_term(levels):
    """Each triple of like terms: 3 to the power of the levels are its places."""
    term = 1
    for _ in range(levels):
        term = (term, term, term)
    return term


def no_tables():
    return any_values() + [(0, 1), (0, 0, 0, 1), (0,) * 16, (0,) * 7, (0,) * 9, [0] * 8, (0,) * 7 + (True,),
                           (0,) * 7 + (2,), (0,) * 7 + (-1,), (0,) * 7 + (None,), "00000000", ((0,) * 8,), (False,) * 8]


class PlainTest(Case):

    def test_all_tables(self):
        for table in TABLES:
            self.assertIs(is_plain(table), table in PLAIN)
        self.assertIs(is_plain(table=(0, 1, 0, 1, 0, 1, 0, 1)), True)
        self.assertEqual(len([table for table in TABLES if is_plain(table)]), 6)


class TermTableTest(Case):

    def test_places(self):
        for table in TABLES:
            for place in range(3):
                told = term_table(table, place)
                self.assertTrue(is_all_plain(told))
                self.assertEqual(told, PLACES[place])

    def test_triples_worked_out_by_hand(self):
        self.assertEqual(term_table(MAJORITY, (0, 1, 2)), MAJORITY)
        self.assertEqual(term_table(MAJORITY, (0, 0, 1)), PLACES[0])
        self.assertEqual(term_table((0, 1, 0, 0, 0, 0, 0, 0), (0, 1, 2)), (0, 1, 0, 0, 0, 0, 0, 0))
        self.assertEqual(term_table((0, 1, 0, 0, 0, 0, 0, 0), (2, 1, 0)), (0, 0, 0, 0, 1, 0, 0, 0))
        self.assertEqual(term_table((0, 1, 0, 0, 0, 0, 0, 0), (2, 2, 1)), (0, 0, 1, 0, 0, 0, 1, 0))
        self.assertEqual(term_table((1,) * 7 + (0,), ((0, 1, 1), (0, 1, 1), 2)), (1, 0, 1, 0, 1, 0, 1, 1))

    def drawn_term(self, draw, levels):
        if levels == 0 or draw.random() < 0.2:
            return draw.randint(0, 2)
        return tuple(self.drawn_term(draw, levels - 1) for _ in range(3))

    def test_drawn_terms(self):
        draw = drawing(121)
        for _ in range(150):
            table, term = draw.choice(TABLES), self.drawn_term(draw, 4)
            told = term_table(table, term)
            self.assertTrue(is_all_plain(told))
            self.assertEqual(told, worked_out(table, term))

    def test_up_to_twelve_deep(self):
        for levels in range(13):
            for table in (MAJORITY, TABLES[77], TABLES[200]):
                self.assertEqual(term_table(table, deep_term(levels)), worked_out(table, deep_term(levels)))
        for levels in (13, 14, 29):
            for term in (deep_term(levels), (0, 1, deep_term(levels - 1)), (0, deep_term(levels - 1), 1),
                         full_term(levels)):
                self.assert_raises_with(Undefined, "what", "term", term_table, MAJORITY, term)

    def test_many_places(self):
        self.assertEqual(term_table(MAJORITY, full_term(7)), PLACES[1])
        self.assertEqual(term_table((1, 0) * 4, full_term(8)), PLACES[1])
        self.assertEqual(term_table((1,) + (0,) * 7, full_term(7)), tuple(1 - value for value in PLACES[1]))

    def test_arguments_by_name(self):
        self.assertEqual(term_table(term=2, table=MAJORITY), PLACES[2])

    def test_what_is_no_term(self):
        wrong = [3, -1, 10 ** 5000, True, False, None, "0", "", [0, 1, 2], (0, 1), (0, 1, 2, 0), (), (0,), (0, 1, 3),
                 (0, -1, 1), (0, 1, True), (False, 1, 2), (0, 1, None), (0, 1, "2"), (0, 1, [0, 1, 2]), ((0, 1), 1, 2),
                 (0, (0, 1, 2, 0), 1), (0, 1, (0, 1, (0, 1, (0, 1, 3)))), [[0, 1, 2], 1, 2], deep_term(3, list),
                 deep_term(12, tuple, 3), deep_term(11, tuple, True), deep_term(5, tuple, [0, 1, 2])]
        wrong += [value for value in any_values() if not is_term(value)]
        for term in wrong:
            self.assert_raises_with(Undefined, "what", "term", term_table, MAJORITY, term)
            self.assert_raises_with(Undefined, "what", "term", term_table, MAJORITY, (0, 1, (1, 1, [term])))

    def test_a_wrong_table_is_told_first(self):
        for table in no_tables():
            for term in (0, (0, 1, 2), None, 3):
                self.assert_raises_with(InvalidTable, "value", table, term_table, table, term)


class TermOfTest(Case):

    def test_all_tables(self):
        for table in TABLES:
            if table in PLAIN:
                self.assert_raises_with(Undefined, "what", "plain", term_of, table)
                continue
            found = term_of(table)
            self.assertIs(type(found), tuple)
            self.assertTrue(is_all_plain(found))
            self.assertTrue(is_right(table, found))
            word, term = found
            self.assertLessEqual(depth(term), 12)
            self.assertLessEqual(place_count(term), 1000)
            self.assertEqual(term_table(table, term), WIDE[word])
            self.assertIs(term_holds(table, found), True)
            self.assertEqual(term_of(table=table), found)

    def test_what_is_no_table(self):
        for table in no_tables():
            self.assert_raises_with(InvalidTable, "value", table, term_of, table)


class TermHoldsTest(Case):

    def test_other_words_and_changed_terms(self):
        draw = drawing(122)
        for table in draw.sample([table for table in TABLES if table not in PLAIN], 60):
            claim = term_of(table)
            for word in WIDE:
                self.assertIs(term_holds(table, (word, claim[1])), WIDE[word] == worked_out(table, claim[1]))
            for worse in spoilt(claim):
                self.assertIs(term_holds(table, worse), is_right(table, worse))

    def test_claims_of_all_small_terms(self):
        small = [(a, b, c) for a in range(3) for b in range(3) for c in range(3)] + [0, 1, 2]
        for table in TABLES[::7]:
            for word in WIDE:
                for term in small:
                    self.assertIs(term_holds(table, (word, term)), is_right(table, (word, term)))

    def test_deep_claims(self):
        no = (0,) * 8
        for levels in range(1, 12):
            self.assertIs(term_holds(no, ("all no", deep_term(levels))), True)
        self.assertIs(term_holds(no, ("all no", deep_term(12))), True)
        self.assertIs(term_holds(no, ("all no", deep_term(13))), False)
        self.assertIs(term_holds(no, ("all no", full_term(30))), False)

    def test_a_thousand_places(self):
        no = (0,) * 8
        for triples in range(490, 510):
            term = self.grown(triples)
            self.assertEqual(place_count(term), 2 * triples + 1)
            self.assertIs(term_holds(no, ("all no", term)), 2 * triples + 1 <= 1000)
        self.assertIs(term_holds(no, ("all no", full_term(6))), True)
        self.assertIs(term_holds(no, ("all no", full_term(7))), False)

    def grown(self, triples):
        """A term of so many triples: one, and the others shared among its three parts."""
        if triples == 0:
            return 0
        triples -= 1
        shares = [triples // 3 + (k < triples % 3) for k in range(3)]
        return tuple(self.grown(share) for share in shares)

    def test_the_table_s_own_majority(self):
        self.assertIs(term_holds(MAJORITY, ("majority", (0, 1, 2))), True)
        self.assertIs(term_holds(MAJORITY, ("majority", (2, 0, 1))), True)
        self.assertIs(term_holds(MAJORITY, ("majority", (2, 0, 0))), False)
        self.assertIs(term_holds(claim=("majority", (1, 2, 0)), table=MAJORITY), True)

    def test_any_value_at_all(self):
        for table in (MAJORITY, (0,) * 8, PLACES[0], (1, 0) * 4):
            for value in any_values() + [("and",), ["and", 0], ("and", 0, 0), {"and": 0}]:
                self.assertIs(term_holds(table, value), False)
                self.assertIs(term_holds(table, (value, (0, 1, 2))), False)
                self.assertIs(term_holds(table, ("majority", value)), False)
                self.assertIs(term_holds(table, (value, value)), False)

    def test_plain_tables_give_none(self):
        for table in PLAIN:
            for word in WIDE:
                for term in (0, (0, 1, 2), (0, 0, 0), (0, 0, 1), full_term(4)):
                    self.assertIs(term_holds(table, (word, term)), False)


if __name__ == "__main__":
    unittest.main()
