"""Fillings of a puzzle: some, the least, the greatest, the first by wishes; and papers that there is none."""

from eightcells.basics import is_row, is_tuple
from eightcells.chains import forced
from eightcells.errors import InvalidFilling, InvalidStart, Undefined
from eightcells.papers import shows_none
from eightcells.puzzles import fixed_by, is_filling, is_start, keeps_start
from eightcells.solving import Solver
from eightcells.tables import break_of, table_of


def fill(puzzle, start=()):
    if not is_start(puzzle, start):
        raise InvalidStart(start)
    solver = Solver(puzzle)
    fixed = fixed_by(start)
    row = solver.filling(fixed)
    if row is None:
        return ("none", solver.refusal(fixed))
    return ("filled", row)


def least_filling(puzzle, start=()):
    return _filling_by_force(puzzle, start, "and", 0)


def greatest_filling(puzzle, start=()):
    return _filling_by_force(puzzle, start, "or", 1)


def _filling_by_force(puzzle, start, word, else_value):
    """The filling by which what is not forced has the one value, where the deed keeps the book."""
    if not is_start(puzzle, start):
        raise InvalidStart(start)
    if break_of(puzzle.book, table_of(word)) is not None:
        raise Undefined("deed")
    pairs = forced(puzzle, start)
    if pairs is None:
        raise Undefined("filling")
    fixed = fixed_by(pairs)
    return tuple([fixed.get(cell, else_value) for cell in range(puzzle.cell_count)])


def first_by(puzzle, wishes, start=()):
    _check_wishes(puzzle, wishes, start)
    row = first_row(Solver(puzzle), wishes, start)
    if row is None:
        raise Undefined("filling")
    return row


def first_paper(puzzle, wishes, start=()):
    _check_wishes(puzzle, wishes, start)
    solver = Solver(puzzle)
    row = first_row(solver, wishes, start)
    if row is None:
        raise Undefined("filling")
    return first_refusals(solver, wishes, start, row)


def first_holds(puzzle, wishes, start, claim, paper):
    _check_wishes(puzzle, wishes, start)
    if not is_filling(puzzle, claim) or not keeps_start(claim, start):
        return False
    refused = _wishes_refused(wishes, start, claim)
    if not is_tuple(paper, len(refused)):
        return False
    return all([shows_none(puzzle, fixed, part) for fixed, part in zip(refused, paper)])


def _check_wishes(puzzle, wishes, start):
    if not is_row(wishes, puzzle.cell_count):
        raise InvalidFilling(wishes)
    if not is_start(puzzle, start):
        raise InvalidStart(start)


def first_row(solver, wishes, start):
    """The first filling by the wishes, or None if no filling keeps the start."""
    fixed = fixed_by(start)
    row = solver.filling(fixed)
    if row is None:
        return None
    for cell, wish in enumerate(wishes):
        if cell not in fixed and row[cell] != wish:
            other = solver.filling({**fixed, cell: wish})
            row = row if other is None else other
        fixed[cell] = row[cell]
    return row


def first_refusals(solver, wishes, start, row):
    return tuple([solver.refusal(fixed) for fixed in _wishes_refused(wishes, start, row)])


def _wishes_refused(wishes, start, row):
    """For each cell of the row that has not its wish: what is fixed ahead of it, and the wish."""
    fixed = fixed_by(start)
    found = []
    for cell, wish in enumerate(wishes):
        if cell not in fixed and row[cell] != wish:
            found.append({**fixed, cell: wish})
        fixed[cell] = row[cell]
    return found
