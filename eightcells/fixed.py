"""What is so in all fillings of a puzzle, and how many there are."""

from eightcells.basics import is_tuple
from eightcells.errors import InvalidStart, Undefined
from eightcells.papers import shows_none
from eightcells.puzzles import fixed_by, is_filling, is_start, keeps_start
from eightcells.solving import Solver


def fixed_cells(puzzle, start=()):
    if not is_start(puzzle, start):
        raise InvalidStart(start)
    agreed = pairs_and_fillings(Solver(puzzle), start)
    if agreed is None:
        raise Undefined("filling")
    return agreed[0]


def fixed_paper(puzzle, start=()):
    if not is_start(puzzle, start):
        raise InvalidStart(start)
    solver = Solver(puzzle)
    agreed = pairs_and_fillings(solver, start)
    if agreed is None:
        raise Undefined("filling")
    pairs, found = agreed
    return (fixed_refusals(solver, start, pairs), found)


def fixed_holds(puzzle, start, claim, paper):
    if not is_start(puzzle, start):
        raise InvalidStart(start)
    if not is_start(puzzle, claim) or not all([pair in claim for pair in start]) or not is_tuple(paper, 2):
        return False
    papers, found = paper
    opposed = _opposed(start, claim)
    if not is_tuple(papers, len(opposed)) or not _leave_free(puzzle, start, claim, found):
        return False
    return all([shows_none(puzzle, fixed, part) for fixed, part in zip(opposed, papers)])


def _leave_free(puzzle, start, claim, thing):
    """Whether it is a tuple of fillings, one at least, in which each cell that is in no pair has both values."""
    if not isinstance(thing, tuple) or not thing:
        return False
    if not all([is_filling(puzzle, row) and keeps_start(row, start) for row in thing]):
        return False
    fixed = fixed_by(claim)
    columns = list(zip(*thing))
    return all([0 in column and 1 in column for cell, column in enumerate(columns) if cell not in fixed])


def count(puzzle, start=()):
    if not is_start(puzzle, start):
        raise InvalidStart(start)
    return Solver(puzzle).how_many(fixed_by(start))


def pairs_and_fillings(solver, start):
    """What is so in all fillings, and fillings that show of all else that it is not; None if there is no filling."""
    fixed = fixed_by(start)
    row = solver.filling(fixed)
    if row is None:
        return None
    pairs = []
    found = [row]
    for cell, value in enumerate(row):
        if cell in fixed:
            pairs.append((cell, value))
        elif all([row_found[cell] == value for row_found in found]):
            other = solver.filling({**fixed, cell: 1 - value})
            if other is None:
                pairs.append((cell, value))
            else:
                found.append(other)
    return tuple(pairs), tuple(found)


def fixed_refusals(solver, start, pairs):
    return tuple([solver.refusal(fixed) for fixed in _opposed(start, pairs)])


def _opposed(start, pairs):
    """For each pair that is not in the start: what the start fixes, and the opposite of the pair."""
    fixed = fixed_by(start)
    return [{**fixed, cell: 1 - value} for cell, value in pairs if cell not in fixed]
