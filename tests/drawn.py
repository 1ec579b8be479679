"""Puzzles drawn for several tests: over books that each deed keeps, and that none keeps."""

from eightcells.books import Book
from eightcells.puzzles import Puzzle
from eightcells.relations import Relation
from tests.worked_out import (
    all_rows, drawing, drawn_book_kept, drawn_puzzle, drawn_relation, drawn_start, closed, words_kept)

# The words of the deeds by which papers are made, in the order in which they count.
FAST = ("and", "or", "majority", "odd one")
ONE_OF_THREE = Relation(3, [(0, 0, 1), (0, 1, 0), (1, 0, 0)])
NOT_ALL_LIKE = Relation(3, all_rows(3)[1:7])


def drawn_cases(seed, many, most_cells=6, most_ties=7, words=("all no", "all yes") + FAST + (None,)):
    """So many triples for each word: a puzzle, a start of it, and which of the last four deeds keep its book."""
    draw = drawing(seed)
    for word in words:
        for _ in range(many):
            sizes = draw.choice({"majority": ((2,), (2, 3)), "odd one": ((2, 3), (3, 4))}.get(word, ((2, 3), (3, 4))))
            book = drawn_book_kept(draw, word, sizes=sizes, least=2, most=draw.choice((3, 6, 9)))
            cell_count = draw.randint(0, most_cells)
            puzzle = drawn_puzzle(draw, book, cell_count, draw.randint(0, most_ties) if cell_count else 0)
            yield puzzle, drawn_start(draw, cell_count), words_kept(book, True)


def hard_cases(seed, many):
    """The same of puzzles over a book that nothing keeps, of which papers need splits."""
    draw = drawing(seed)
    for _ in range(many):
        ties = [(draw.randint(0, 1), tuple(draw.sample(range(6), 3))) for _ in range(draw.randint(3, 5))]
        yield Puzzle(Book([ONE_OF_THREE, NOT_ALL_LIKE]), 6, ties), drawn_start(draw, 6, 1), ()


def kept_relation(draw, word, sizes, least, most):
    return closed(drawn_relation(draw, draw.choice(sizes), least, most), word)


def large_puzzle(draw, word, planted, many_ties):
    """Forty cells with so many ties over a book that the word's deed keeps; if planted there is a filling."""
    sizes, least, most = {"and": ((2, 3, 4), 2, 5), "or": ((2, 3, 4), 2, 5), "majority": ((2, 2, 3), 3, 6),
                          "odd one": ((3, 4), 3, 4)}[word]
    book = Book([kept_relation(draw, word, sizes, least, most) for _ in range(4)])
    row = [draw.randint(0, 1) for _ in range(40)]
    ties = []
    while len(ties) < many_ties:
        number = draw.randrange(4)
        relation = book.relations[number]
        cells = tuple(draw.sample(range(40), relation.size))
        if not planted or tuple(row[cell] for cell in cells) in relation.rows:
            ties.append((number, cells))
    return Puzzle(book, 40, ties)
