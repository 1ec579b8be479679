"""Moves: a tie laid or taken away, a cell fixed or freed."""

from eightcells.basics import is_number_below, is_tuple, is_value
from eightcells.puzzles import fixed_by, is_tie


def is_move(puzzle, start, value):
    if is_tuple(value, 3) and value[0] == "tie":
        return is_tie(value[1:], puzzle.book, puzzle.cell_count)
    if is_tuple(value, 2) and value[0] == "take":
        return is_number_below(value[1], len(puzzle.ties))
    if is_tuple(value, 3) and value[0] == "fix":
        return _is_cell(puzzle, value[1]) and value[1] not in fixed_by(start) and is_value(value[2])
    if is_tuple(value, 2) and value[0] == "free":
        return _is_cell(puzzle, value[1]) and value[1] in fixed_by(start)
    return False


def _is_cell(puzzle, thing):
    return is_number_below(thing, puzzle.cell_count)


def moved(puzzle, start, move):
    """The puzzle and the start behind the move."""
    if move[0] == "tie":
        return puzzle.with_tie(move[1:]), start
    if move[0] == "take":
        return puzzle.without(move[1]), start
    if move[0] == "fix":
        return puzzle, tuple(sorted(start + (move[1:],)))
    return puzzle, tuple([pair for pair in start if pair[0] != move[1]])
