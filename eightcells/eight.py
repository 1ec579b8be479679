"""The puzzle whose fillings are the tables that keep a book, and the side on which a book is."""

from eightcells.basics import is_integer, is_number_below, is_tuple, opposite_of, row_number
from eightcells.errors import InvalidNumber
from eightcells.puzzles import Puzzle, fillings
from eightcells.tables import break_of, kept_by
from eightcells.terms import PLACE_TABLES

TURNED = (1, 0)
# The cells of (0, 0, 0) and (1, 1, 1): what three like values make is fixed to be that value.
LIKE_STAYS = ((0, 0), (7, 1))


def deed_puzzle(book, m):
    if not is_integer(m) or not 1 <= m <= 4:
        raise InvalidNumber(m)
    ties = []
    for number, relation in enumerate(book.relations):
        ties.extend([deed_tie(number, rows) for rows in _tuples_of(relation.rows, m)])
    return Puzzle(book, 1 << m, ties)


def deed_tie(number, rows):
    """The tie that says: what a table makes of these rows of the relation is a row of it."""
    return (number, cells_read(rows))


def cells_read(rows):
    """The cells of the rows of values that these rows read place by place."""
    return tuple([row_number(values) for values in zip(*rows)])


def _tuples_of(rows, many):
    found = [()]
    for _ in range(many):
        found = [chosen + (row,) for chosen in found for row in rows]
    return found


def side(book, *, fixed=False):
    words = kept_by(book, fixed=fixed)
    if words:
        return ("kept", words)
    if not fixed and break_of(book, TURNED) is None:
        return ("all", 6)
    return ("all", 3)


def side_paper(book, *, fixed=False):
    word, told = side(book, fixed=fixed)
    if word == "kept":
        return ()
    pairs = []
    left = _tables_left(book, told, pairs, fixed)
    while left:
        pairs.append(break_of(book, left[0]))
        left = _tables_left(book, told, pairs, fixed)
    return tuple(pairs)


def side_holds(book, claim, paper, *, fixed=False):
    word, told = side(book, fixed=fixed)
    if claim != (word, told):
        return False
    if word == "kept":
        return paper == ()
    return _is_side_paper(book, paper) and not _tables_left(book, told, paper, fixed)


def _is_side_paper(book, thing):
    return isinstance(thing, tuple) and all([_is_pair(book, member) for member in thing])


def _is_pair(book, thing):
    if not is_tuple(thing, 2) or not is_number_below(thing[0], len(book)) or not is_tuple(thing[1], 3):
        return False
    relation = book.relations[thing[0]]
    return all([relation.has(row) for row in thing[1]])


def _tables_left(book, k, pairs, fixed):
    """The tables of three places that are none of the k plain ones and that no pair shows to break the book."""
    # A pair is a tie of deed_puzzle(book, 3), and a table that it does not show fills this tie.
    puzzle = Puzzle(book, 8, [deed_tie(number, rows) for number, rows in pairs])
    tables = fillings(puzzle, LIKE_STAYS if fixed else ())
    plain = PLACE_TABLES
    if k == 6:
        plain = PLACE_TABLES + tuple([opposite_of(table) for table in PLACE_TABLES])
    return [table for table in tables if table not in plain]
