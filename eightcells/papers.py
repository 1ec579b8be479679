"""The judge: whether a paper shows that no filling keeps a start. It trusts nothing in the paper."""

from eightcells.basics import is_integer, is_number_below, is_rising, is_tuple, is_value
from eightcells.errors import InvalidStart
from eightcells.puzzles import fixed_by, is_start, views_under


def none_holds(puzzle, start, paper):
    if not is_start(puzzle, start):
        raise InvalidStart(start)
    return shows_none(puzzle, fixed_by(start), paper)


def shows_none(puzzle, fixed, paper):
    """Whether it is a paper that no filling has the values that are fixed."""
    # A list of what is still to be judged, as splits may lie deeper than calls should.
    waiting = [(fixed, paper)]
    while waiting:
        so_far, part = waiting.pop()
        if _is_of_kind(part, "split", 4):
            if not _is_free(puzzle, part[1], so_far):
                return False
            waiting.append(({**so_far, part[1]: 0}, part[2]))
            waiting.append(({**so_far, part[1]: 1}, part[3]))
        elif not _holds_unsplit(puzzle, so_far, part):
            return False
    return True


def _holds_unsplit(puzzle, fixed, paper):
    if _is_of_kind(paper, "chain", 3):
        return _chain_holds(puzzle, fixed, paper[1], paper[2])
    if _is_of_kind(paper, "ring", 4):
        return _ring_holds(puzzle, fixed, paper)
    if _is_of_kind(paper, "sum", 2):
        return _sum_holds(puzzle, fixed, paper[1])
    return False


def _is_of_kind(paper, word, length):
    return is_tuple(paper, length) and paper[0] == word


def _is_free(puzzle, thing, fixed):
    return is_number_below(thing, puzzle.cell_count) and thing not in fixed


def _is_tie_number(puzzle, thing):
    return is_number_below(thing, len(puzzle.ties))


def _is_cell_of(puzzle, thing, t):
    return is_integer(thing) and thing in puzzle.ties[t][1]


def _is_step(puzzle, thing):
    """Whether it is the number of a tie, a cell of this tie and a value."""
    if not is_tuple(thing, 3) or not _is_tie_number(puzzle, thing[0]):
        return False
    return _is_cell_of(puzzle, thing[1], thing[0]) and is_value(thing[2])


def _seen(puzzle, t, fixed):
    """The views of the tie, each as its cells with their values."""
    cells = puzzle.ties[t][1]
    return [{cell: value for cell, value in zip(cells, row)} for row in views_under(puzzle, t, fixed)]


def _chain_holds(puzzle, fixed, steps, last):
    if not isinstance(steps, tuple) or not _is_tie_number(puzzle, last):
        return False
    so_far = dict(fixed)
    for step in steps:
        if not _is_step(puzzle, step):
            return False
        t, cell, value = step
        seen = _seen(puzzle, t, so_far)
        if cell in so_far or not seen or not all([view[cell] == value for view in seen]):
            return False
        so_far[cell] = value
    return not views_under(puzzle, last, so_far)


def _ring_holds(puzzle, fixed, paper):
    _, cell, there, back = paper
    if not _is_free(puzzle, cell, fixed):
        return False
    return _leads(puzzle, fixed, there, (cell, 1), (cell, 0)) and _leads(puzzle, fixed, back, (cell, 0), (cell, 1))


def _leads(puzzle, fixed, steps, first, last):
    """Whether the steps lead from the first cell and value to the last."""
    if not isinstance(steps, tuple):
        return False
    # The last is never the first, so without steps it is not come to.
    here = first
    for step in steps:
        if not _is_step(puzzle, step) or not _follows(puzzle, fixed, here, step):
            return False
        here = step[1:]
    return here == last


def _follows(puzzle, fixed, here, step):
    """Whether in all views of the step's tie in which here is so the step's cell has its value."""
    t, cell, value = step
    from_cell, from_value = here
    if not _is_cell_of(puzzle, from_cell, t):
        return False
    return all([view[cell] == value for view in _seen(puzzle, t, fixed) if view[from_cell] == from_value])


def _sum_holds(puzzle, fixed, parts):
    if not isinstance(parts, tuple):
        return False
    in_odd_many = {}
    bits = 0
    for part in parts:
        if not _is_part(puzzle, part) or not _leaves(puzzle, fixed, part):
            return False
        bits += part[2]
        for cell in part[1]:
            in_odd_many[cell] = not in_odd_many.get(cell, False)
    # Without parts the sum of the bits is 0.
    return bits % 2 == 1 and not any(list(in_odd_many.values()))


def _is_part(puzzle, thing):
    """Whether it is the number of a tie, rising cells of this tie and a value."""
    if not is_tuple(thing, 3) or not _is_tie_number(puzzle, thing[0]) or not isinstance(thing[1], tuple):
        return False
    t, cells, bit = thing
    return all([_is_cell_of(puzzle, cell, t) for cell in cells]) and is_rising(cells) and is_value(bit)


def _leaves(puzzle, fixed, part):
    """Whether in all views of the part's tie the sum of its cells leaves its bit."""
    t, cells, bit = part
    return all([sum([view[cell] for cell in cells]) % 2 == bit for view in _seen(puzzle, t, fixed)])
