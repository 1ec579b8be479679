"""What the points say, worked out row by row, slowly; of the program only the classes are used."""

from itertools import product
from random import Random

from eightcells.books import Book
from eightcells.puzzles import Puzzle
from eightcells.relations import Relation

# The six deeds by what they do, in the order of the document.
DEEDS = [
    ("all no", 1, lambda values: 0),
    ("all yes", 1, lambda values: 1),
    ("and", 2, lambda values: min(values)),
    ("or", 2, lambda values: max(values)),
    ("majority", 3, lambda values: int(sum(values) >= 2)),
    ("odd one", 3, lambda values: sum(values) % 2),
]


def all_rows(size):
    return list(product((0, 1), repeat=size))


def table_by(places, deed):
    return tuple(deed(values) for values in all_rows(places))


def deed_tables():
    return [(word, table_by(places, deed)) for word, places, deed in DEEDS]


def all_tables(places):
    return all_rows(2 ** places)


def places_of(table):
    return {2: 1, 4: 2, 8: 3, 16: 4}[len(table)]


def made(table, rows):
    """What the table makes of the rows, place by place."""
    heads = all_rows(len(rows))
    return tuple(table[heads.index(values)] for values in zip(*rows))


def first_break(relation, table):
    for rows in product(relation.rows, repeat=places_of(table)):
        if made(table, rows) not in relation.rows:
            return rows
    return None


def keeps(book, table):
    return all(first_break(relation, table) is None for relation in book.relations)


def words_kept(book, fixed=False):
    words = tuple(word for word, table in deed_tables() if keeps(book, table))
    return tuple(word for word in words if not (fixed and word in ("all no", "all yes")))


def fits(puzzle, row, start=()):
    if any(row[cell] != value for cell, value in start):
        return False
    relations = puzzle.book.relations
    return all(tuple(row[cell] for cell in cells) in relations[number].rows for number, cells in puzzle.ties)


def all_fillings(puzzle, start=()):
    return tuple(row for row in all_rows(puzzle.cell_count) if fits(puzzle, row, start))


def all_views(puzzle, t, start=()):
    number, cells = puzzle.ties[t]
    found = []
    for row in sorted(puzzle.book.relations[number].rows):
        pairs = list(zip(cells, row)) + [(cell, value) for cell, value in start if cell in cells]
        if all(value == other for cell, value in pairs for again, other in pairs if cell == again):
            found.append(row)
    return tuple(found)


def drawn_relation(draw, size, least=1, most=16):
    rows = all_rows(size)
    return Relation(size, draw.sample(rows, draw.randint(min(least, len(rows)), min(most, len(rows)))))


def drawn_book(draw, most_relations=3, sizes=(1, 2, 3, 4), least=1, most=16):
    many = draw.randint(1, most_relations)
    return Book([drawn_relation(draw, draw.choice(sizes), least, most) for _ in range(many)])


def drawn_puzzle(draw, book, cell_count, tie_count):
    ties = []
    for _ in range(tie_count):
        number = draw.randrange(len(book))
        size = book.relations[number].size
        ties.append((number, tuple(draw.randrange(cell_count) for _ in range(size))))
    return Puzzle(book, cell_count, ties)


def drawn_start(draw, cell_count, most=3):
    cells = sorted(draw.sample(range(cell_count), draw.randint(0, min(most, cell_count))))
    return tuple((cell, draw.randint(0, 1)) for cell in cells)


def drawing(seed):
    return Random(seed)


def closed(relation, word):
    """The least relation with these rows that the word's table keeps: rows are put in until none is lacking."""
    table = dict(deed_tables())[word]
    rows = set(relation.rows)
    while True:
        more = {made(table, chosen) for chosen in product(sorted(rows), repeat=places_of(table))} - rows
        if not more:
            return Relation(relation.size, sorted(rows))
        rows |= more


def drawn_book_kept(draw, word, most_relations=3, sizes=(1, 2, 3, 4), least=1, most=16):
    """A drawn book that the deed keeps; of the word None just a drawn book."""
    book = drawn_book(draw, most_relations, sizes, least, most)
    return book if word is None else Book([closed(relation, word) for relation in book.relations])


def first_of(all_found, wishes):
    """The filling that is first by the wishes: wish by wish those that have it are left, if there are any."""
    for cell, wish in enumerate(wishes):
        all_found = [row for row in all_found if row[cell] == wish] or all_found
    return all_found[0]


def same_in_all(all_found):
    return tuple((cell, values[0]) for cell, values in enumerate(zip(*all_found)) if len(set(values)) == 1)
