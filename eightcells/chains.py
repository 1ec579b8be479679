"""Chains: what is forced, tie by tie, by what is fixed."""

from eightcells.errors import InvalidStart
from eightcells.masks import Masks, cells_in, masks_of, spread
from eightcells.puzzles import fixed_by, is_start


def forced(puzzle, start=()):
    if not is_start(puzzle, start):
        raise InvalidStart(start)
    masks = Masks(puzzle)
    known, yes = masks_of(fixed_by(start))
    known, yes, _, empty = spread(masks, known, yes, masks.ties)
    if empty is not None:
        return None
    return tuple([(cell, yes >> cell & 1) for cell in cells_in(known)])
