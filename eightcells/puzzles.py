"""Puzzles: ties of a book's relations on cells, and what may stand in the cells."""

from eightcells.basics import is_number, is_number_below, is_rising, is_row, is_sequence, is_tuple, is_value
from eightcells.books import Book
from eightcells.errors import InvalidNumber, InvalidPuzzle, InvalidStart


class Puzzle:
    """A book, a number of cells, and ties of the book on these cells. It never changes."""

    def __init__(self, book, cell_count, ties):
        if not isinstance(book, Book):
            raise InvalidPuzzle("book", 0)
        if not is_number(cell_count):
            raise InvalidPuzzle("cells", 0)
        if not is_sequence(ties):
            raise InvalidPuzzle("ties", 0)
        for t, tie in enumerate(ties):
            if not is_tie(tie, book, cell_count):
                raise InvalidPuzzle("ties", t)
        self.book = book
        self.cell_count = cell_count
        self.ties = tuple(ties)

    def __eq__(self, other):
        if not isinstance(other, Puzzle):
            return False
        return self.book == other.book and self.cell_count == other.cell_count and self.ties == other.ties

    def with_tie(self, tie):
        # The ties that it has are right, so a wrong one is told by its number behind them.
        return Puzzle(self.book, self.cell_count, self.ties + (tie,))

    def without(self, t):
        if not is_number_below(t, len(self.ties)):
            raise InvalidNumber(t)
        return Puzzle(self.book, self.cell_count, self.ties[:t] + self.ties[t + 1:])


def is_tie(thing, book, cell_count):
    if not is_tuple(thing, 2):
        return False
    relation, cells = thing
    if not is_number_below(relation, len(book)) or not is_tuple(cells, book.relations[relation].size):
        return False
    return all([is_number_below(cell, cell_count) for cell in cells])


def is_filling(puzzle, value):
    if not is_row(value, puzzle.cell_count):
        return False
    for relation, cells in puzzle.ties:
        if not puzzle.book.relations[relation].has(tuple([value[cell] for cell in cells])):
            return False
    return True


def is_start(puzzle, value):
    if not isinstance(value, tuple) or not all([_is_fixing(puzzle, pair) for pair in value]):
        return False
    return is_rising([cell for cell, _ in value])


def _is_fixing(puzzle, thing):
    return is_tuple(thing, 2) and is_number_below(thing[0], puzzle.cell_count) and is_value(thing[1])


def fixed_by(start):
    """The fixed cells, each with its value: asked and added to sooner than a start is."""
    return {cell: value for cell, value in start}


def keeps_start(row, start):
    return all([row[cell] == value for cell, value in start])


def views(puzzle, t, start=()):
    if not is_number_below(t, len(puzzle.ties)):
        raise InvalidNumber(t)
    if not is_start(puzzle, start):
        raise InvalidStart(start)
    return views_under(puzzle, t, fixed_by(start))


def views_under(puzzle, t, fixed):
    relation, cells = puzzle.ties[t]
    return tuple([row for row in puzzle.book.relations[relation].rows if _is_view(row, cells, fixed)])


def _is_view(row, cells, fixed):
    seen = {}
    for cell, value in zip(cells, row):
        if fixed.get(cell, value) != value or seen.setdefault(cell, value) != value:
            return False
    return True


def rows_at_cells(puzzle, t, fixed):
    """The cells of the tie, each once and rising, and what its views let stand there."""
    tied = puzzle.ties[t][1]
    cells = tuple(sorted(set(tied)))
    places = [tied.index(cell) for cell in cells]
    return cells, [tuple([row[place] for place in places]) for row in views_under(puzzle, t, fixed)]


def fillings(puzzle, start=()):
    if not is_start(puzzle, start):
        raise InvalidStart(start)
    fixed = fixed_by(start)
    groups = _groups_by_last_cell(puzzle, fixed)
    found = [()]
    for cell in range(puzzle.cell_count):
        values = [fixed[cell]] if cell in fixed else [0, 1]
        longer = [row + (value,) for row in found for value in values]
        found = [row for row in longer if _fits(row, groups.get(cell, []))]
    return tuple(found)


def _fits(row, groups):
    for cells, allowed in groups:
        if tuple([row[cell] for cell in cells]) not in allowed:
            return False
    return True


def _groups_by_last_cell(puzzle, fixed):
    """For each cell: the groups of cells that end with it, each with what the ties let stand there."""
    allowed = {}
    for t in range(len(puzzle.ties)):
        _narrow_by_tie(allowed, puzzle, t, fixed)
    groups = {}
    for cells, rows in allowed.items():
        # Where anything may stand there is nothing to ask.
        if len(rows) < 1 << len(cells):
            groups.setdefault(cells[-1], []).append((cells, rows))
    return groups


def _narrow_by_tie(allowed, puzzle, t, fixed):
    """Let stand at the tie's first cells, in the order of their numbers, only what begins a view."""
    cells, rows = rows_at_cells(puzzle, t, fixed)
    for many in range(1, len(cells) + 1):
        group = cells[:many]
        heads = {row[:many]: True for row in rows}
        if group in allowed:
            heads = {row: True for row in allowed[group] if row in heads}
        allowed[group] = heads
