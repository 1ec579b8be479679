"""Chains: what is forced, tie by tie, by what is fixed."""

from eightcells.errors import InvalidStart
from eightcells.puzzles import fixed_by, is_start, views_under


def forced(puzzle, start=()):
    if not is_start(puzzle, start):
        raise InvalidStart(start)
    fixed = fixed_by(start)
    ties_at = _ties_by_cell(puzzle)
    waiting = list(range(len(puzzle.ties)))
    while waiting:
        t = waiting.pop()
        rows = views_under(puzzle, t, fixed)
        if not rows:
            return None
        agreed = _agreed(puzzle.ties[t][1], rows)
        for cell in agreed:
            if cell not in fixed:
                fixed[cell] = agreed[cell]
                waiting.extend(ties_at[cell])
    return tuple(sorted(fixed.items()))


def _ties_by_cell(puzzle):
    found = {}
    for t, tie in enumerate(puzzle.ties):
        for cell in tie[1]:
            found.setdefault(cell, []).append(t)
    return found


def _agreed(cells, rows):
    """The cells at whose places all rows have one value, each with this value."""
    columns = list(zip(*rows))
    return {cell: column[0] for cell, column in zip(cells, columns) if len(set(column)) == 1}
