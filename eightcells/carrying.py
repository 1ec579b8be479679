"""Puzzles over any relations carried into a book that can write them, each filling told from another."""

from eightcells.books import Book
from eightcells.building import Builder
from eightcells.eight import LIKE_STAYS, deed_tie, side, side_paper
from eightcells.errors import InvalidBook, InvalidFilling, InvalidPuzzle, Undefined
from eightcells.puzzles import Puzzle, fillings, is_filling, keeps_start, rows_at_cells
from eightcells.relations import Relation
from eightcells.tables import kept_by

# Of the cells of the deed puzzle of three places those of (1, 0, 0), (0, 1, 0) and (0, 0, 1).
ONES = (4, 2, 1)


class Carried:
    """A puzzle, and one over the book with as many fillings, or twice as many, in pairs. It never changes."""

    def __init__(self, puzzle, book):
        if not isinstance(puzzle, Puzzle):
            raise InvalidPuzzle("puzzle", 0)
        if not isinstance(book, Book):
            raise InvalidBook(book)
        if kept_by(book, fixed=True):
            raise Undefined("deed")
        all_free = not kept_by(book)
        builder = _built(puzzle, book, all_free)
        self.first = puzzle
        self.puzzle = Puzzle(book, builder.cells_made(), builder.ties)
        self.start = () if all_free else ((builder.zero, 0), (builder.one, 1))
        self.cells = tuple(range(puzzle.cell_count))
        self.against = builder.zero if side(book) == ("all", 6) else None
        self.times = 1 if self.against is None else 2
        self.parts = tuple(builder.parts)
        self._rules = builder.rules

    def on(self, filling):
        if not is_filling(self.first, filling):
            raise InvalidFilling(filling)
        # Behind the first's cells come zero and one, then the helpers, each told by cells ahead of it.
        row = list(filling) + [0, 1]
        for cells, values in self._rules:
            row.append(1 if tuple([row[cell] for cell in cells]) == values else 0)
        return tuple(row)

    def back(self, filling):
        if not is_filling(self.puzzle, filling) or not keeps_start(filling, self.start):
            raise InvalidFilling(filling)
        no = 0 if self.against is None else filling[self.against]
        return tuple([1 if filling[cell] != no else 0 for cell in self.cells])


def _built(puzzle, book, all_free):
    """The base and the parts of all ties. The base needs ties where zero and one are not fixed by a start."""
    builder = Builder(_least_deed_puzzle(book, True).ties, puzzle.cell_count)
    if all_free:
        builder.put_base(_least_deed_puzzle(book, False).ties)
    builder.end_part()
    for t in range(len(puzzle.ties)):
        cells, rows = rows_at_cells(puzzle, t, {})
        builder.put_rows(cells, rows)
        builder.end_part()
    return builder


def _least_deed_puzzle(book, fixed):
    """Of the ties of deed_puzzle(book, 3) so many, in their order, that all fillings are plain, and none too many."""
    # A pair of the paper stands for a tie, and pairs ascend as the ties do.
    pairs = sorted(side_paper(book, fixed=fixed))
    puzzle = Puzzle(book, 8, [deed_tie(number, rows) for number, rows in pairs])
    start = LIKE_STAYS if fixed else ()
    many = len(fillings(puzzle, start))
    t = 0
    while t < len(puzzle.ties):
        fewer = puzzle.without(t)
        if len(fillings(fewer, start)) == many:
            puzzle = fewer
        else:
            t += 1
    return puzzle


def three_puzzle(book):
    if kept_by(book):
        raise Undefined("deed")
    puzzle = _least_deed_puzzle(book, False)
    rows = [tuple([row[cell] for cell in ONES]) for row in fillings(puzzle)]
    return (puzzle, ONES, Relation(len(ONES), rows))
