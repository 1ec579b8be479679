"""Tables: what comes out for each row of values, and which tables keep a book."""

from eightcells.basics import is_row, row_number
from eightcells.errors import InvalidTable, Undefined

DEEDS = {
    "all no": (0, 0),
    "all yes": (1, 1),
    "and": (0, 0, 0, 1),
    "or": (0, 1, 1, 1),
    "majority": (0, 0, 0, 1, 0, 1, 1, 1),
    "odd one": (0, 1, 1, 0, 1, 0, 0, 1),
}
FIXED_DEEDS = ("and", "or", "majority", "odd one")


def is_table(value, m):
    return is_row(value, 1 << m)


def worth_of(table, row):
    return table[row_number(row)]


def made_row(table, rows):
    return tuple([worth_of(table, values) for values in zip(*rows)])


def break_of(book, table):
    if not any([is_table(table, m) for m in range(1, 5)]):
        raise InvalidTable(table)
    for number, relation in enumerate(book.relations):
        rows = _first_unkept(relation, table)
        if rows is not None:
            return (number, rows)
    return None


def _breaks(book, table):
    """For each relation that the table does not keep its number and the first rows that show it."""
    found = [(number, _first_unkept(relation, table)) for number, relation in enumerate(book.relations)]
    return tuple([pair for pair in found if pair[1] is not None])


def _first_unkept(relation, table):
    """The first rows of which the table makes no row of the relation, or None."""
    # Trying all tuples of rows takes long. But with each row chosen, what still counts is
    # only the part of the table left at each place, and most choices leave the same parts.
    reached = {(table,) * relation.size: ()}
    for _ in range(len(table).bit_length() - 1):
        reached = _one_row_on(reached, relation.rows)
    for parts, rows in reached.items():
        if not relation.has(tuple([part[0] for part in parts])):
            return rows
    return None


def _one_row_on(reached, rows):
    """The parts of a table reached by one more row, each with the first rows that reach it."""
    # Ascending choices of what was reached in ascending order: what comes first is the first.
    found = {}
    for parts, chosen in reached.items():
        for row in rows:
            left = tuple([_half(part, value) for part, value in zip(parts, row)])
            found.setdefault(left, chosen + (row,))
    return found


def _half(part, value):
    middle = len(part) // 2
    return part[middle:] if value else part[:middle]


def is_word(thing):
    return isinstance(thing, str) and thing in DEEDS


def table_of(word):
    if not is_word(word):
        raise Undefined("word")
    return DEEDS[word]


def kept_by(book, *, fixed=False):
    words = FIXED_DEEDS if fixed else tuple(DEEDS)
    return tuple([word for word in words if break_of(book, DEEDS[word]) is None])


def blamed(book):
    return tuple([_breaks(book, DEEDS[word]) for word in DEEDS])


def widened(table):
    return tuple([table[k * len(table) // 8] for k in range(8)])
