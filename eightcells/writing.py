"""What a book writes: the relations that the fillings of its puzzles read at some cells."""

from eightcells.basics import all_rows, is_row, is_sequence, is_tuple
from eightcells.eight import TURNED, cells_read, deed_puzzle, side
from eightcells.errors import InvalidRelation, Undefined
from eightcells.papers import shows_none
from eightcells.relations import MOST_PLACES, Relation
from eightcells.solving import Solver
from eightcells.tables import break_of, is_table, made_row

WRITTEN = ("written",)
BROKEN = ("broken",)
# So many rows are passed, or has a relation of which it is asked whether it is written.
MOST_ROWS = 4


def least_written(book, rows):
    if not _are_rows(rows):
        raise InvalidRelation(rows)
    solver = Solver(deed_puzzle(book, len(rows)))
    cells = cells_read(rows)
    read = [row for row in all_rows(len(cells)) if _table_at(solver, _put_at(cells, row)) is not None]
    return Relation(len(cells), read)


def _are_rows(thing):
    if not is_sequence(thing) or not 1 <= len(thing) <= MOST_ROWS:
        return False
    return any([all([is_row(row, size) for row in thing]) for size in range(1, MOST_PLACES + 1)])


def _put_at(cells, row):
    """The cells with the row's values, None if some cell would get two values."""
    fixed = {}
    for cell, value in zip(cells, row):
        if fixed.setdefault(cell, value) != value:
            return None
    return fixed


def _table_at(solver, fixed):
    """A filling of the deed puzzle with these values, or None."""
    return None if fixed is None else solver.filling(fixed)


def written_claim(book, relation):
    _check_rows(relation)
    return WRITTEN if _table_that_breaks(_solver_for(book, relation), relation) is None else BROKEN


def written_paper(book, relation):
    _check_rows(relation)
    solver = _solver_for(book, relation)
    table = _table_that_breaks(solver, relation)
    if table is not None:
        return table
    return tuple([() if fixed is None else solver.refusal(fixed) for fixed in _others_put(relation)])


def written_holds(book, relation, claim, paper):
    _check_rows(relation)
    if claim == BROKEN:
        return _breaks(book, relation, paper)
    others = _others_put(relation)
    if claim != WRITTEN or not is_tuple(paper, len(others)):
        return False
    puzzle = deed_puzzle(book, len(relation))
    return all([part == () if fixed is None else shows_none(puzzle, fixed, part)
                for fixed, part in zip(others, paper)])


def _breaks(book, relation, thing):
    """Whether it is a table that keeps the book and makes of the relation's rows what is no row of it."""
    if not is_table(thing, len(relation)) or break_of(book, thing) is not None:
        return False
    return not relation.has(made_row(thing, relation.rows))


def _check_rows(relation):
    if len(relation) > MOST_ROWS:
        raise Undefined("rows")


def _solver_for(book, relation):
    return Solver(deed_puzzle(book, len(relation)))


def _others_put(relation):
    """For each row that is none of the relation's the cells with its values, None if it cannot be."""
    cells = cells_read(relation.rows)
    return [_put_at(cells, row) for row in all_rows(relation.size) if not relation.has(row)]


def _table_that_breaks(solver, relation):
    """A table that keeps the book and makes of the relation's rows what is no row of it, or None."""
    for fixed in _others_put(relation):
        table = _table_at(solver, fixed)
        if table is not None:
            return table
    return None


def writes(one, other):
    word, told = side(one)
    if word == "all":
        return told == 3 or break_of(other, TURNED) is None
    if any([len(relation) > MOST_ROWS for relation in other.relations]):
        raise Undefined("rows")
    return all([written_claim(one, relation) == WRITTEN for relation in other.relations])
