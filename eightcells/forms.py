"""Clauses: what the rows of a relation have in common."""

from eightcells.basics import all_rows, is_integer
from eightcells.books import Book
from eightcells.errors import InvalidNumber, Undefined
from eightcells.relations import MOST_PLACES, Relation
from eightcells.tables import break_of, made_row, table_of


def fulfils(row, clause):
    if clause[0] == "pair":
        _, i, j, value, other = clause
        return row[i] != value or row[j] != other
    if clause[0] == "sum":
        _, places, bit = clause
        return sum([row[place] for place in places]) % 2 == bit
    if len(clause) == 3 and row[clause[2]] == 1:
        return True
    return any([row[place] == 0 for place in clause[1]])


def told_by(size, clauses):
    if not is_integer(size) or not 1 <= size <= MOST_PLACES:
        raise InvalidNumber(size)
    rows = [row for row in all_rows(size) if _fulfils_all(row, clauses)]
    if not rows:
        raise Undefined("relation")
    return Relation(size, rows)


def _fulfils_all(row, clauses):
    return all([fulfils(row, clause) for clause in clauses])


def least_kept(relation, word):
    table = table_of(word)
    kept = relation
    broken = break_of(Book([kept]), table)
    while broken is not None:
        # Whatever the table keeps and has these rows has what it makes of them, too.
        kept = Relation(kept.size, kept.rows + (made_row(table, broken[1]),))
        broken = break_of(Book([kept]), table)
    return kept


def if_clauses(relation):
    found = []
    for places in _all_places(relation.size):
        others = [place for place in range(relation.size) if place not in places]
        found.append(("if", places))
        found.extend([("if", places, place) for place in others])
    return _enough(relation, found)


def pair_clauses(relation):
    if relation.size == 1:
        return if_clauses(relation)
    return _enough(relation, [("pair", i, j, value, other) for j in range(relation.size) for i in range(j)
                              for value in (0, 1) for other in (0, 1)])


def _enough(relation, clauses):
    """Of the clauses that all rows of the relation fulfil so many that they say what all of them say."""
    taken = []
    left = all_rows(relation.size)
    for clause in clauses:
        still = [row for row in left if fulfils(row, clause)]
        if len(still) < len(left) and all([fulfils(row, clause) for row in relation.rows]):
            taken.append(clause)
            left = still
    return tuple(taken)


def sum_clauses(relation):
    found = [("sum", places, bit) for places in _all_places(relation.size) if places for bit in (0, 1)]
    found = [clause for clause in found if all([fulfils(row, clause) for row in relation.rows])]
    firsts = [clause[1][0] for clause in found]
    # Sums of clauses are among them. So for each first place just one has no other first place.
    chosen = [clause for clause in found if not any([place in firsts for place in clause[1][1:]])]
    return tuple(sorted(chosen))


def _all_places(size):
    """All rising tuples of places, those with few places first."""
    tuples = [tuple([place for place in range(size) if row[place]]) for row in all_rows(size)]
    return sorted(tuples, key=len)
