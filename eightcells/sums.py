"""Sums: puzzles over a book that the odd one keeps, as equations."""

from eightcells.forms import sum_clauses
from eightcells.masks import cells_in

# An equation is an integer: bit 0 is the bit that a sum leaves, bit k + 1 stands for cell k.
# So this one says that the sum of no cells leaves 1; no other is wrong in itself.
NEVER = 1


class Sums:
    """The equations of a puzzle's ties, each with its tie, solved as far as they go without a start."""

    def __init__(self, puzzle):
        self._cell_count = puzzle.cell_count
        self._equations = _equations_of(puzzle)
        self._tie_at = {}
        for t, tie in enumerate(puzzle.ties):
            for cell in tie[1]:
                self._tie_at.setdefault(cell, t)
        self._solved = {}
        self._refuted = _take_in(self._solved, self._equations, 0)

    def filling(self, fixed):
        """Some filling by which these cells have these values, or None."""
        solved, _, refuted = self._under(fixed)
        if refuted:
            return None
        # Bit 0 is set, so that the bit of an equation is counted with the cells.
        so_far = 1
        for cell in range(self._cell_count):
            if cell in solved and _is_odd(solved[cell][0] & so_far):
                so_far |= _bit_of(cell)
        return tuple([1 if so_far & _bit_of(cell) else 0 for cell in range(self._cell_count)])

    def how_many(self, fixed):
        solved, _, refuted = self._under(fixed)
        return 0 if refuted else 1 << (self._cell_count - len(solved))

    def refusal(self, fixed):
        """A sum with one part for a tie at most, where there is no filling."""
        _, equations, refuted = self._under(fixed)
        by_tie = {}
        for number in cells_in(refuted):
            t, equation = equations[number]
            by_tie[t] = by_tie.get(t, 0) ^ equation
        return ("sum", tuple([(t, tuple(cells_in(equation >> 1)), equation & 1)
                              for t, equation in sorted(by_tie.items()) if equation]))

    def _under(self, fixed):
        """What is solved, the equations that it was made of, and which of them refute each other."""
        # What is fixed holds in each tie at the cell; a cell that is in no tie refutes nothing.
        more = [(self._tie_at.get(cell), _bit_of(cell) | value) for cell, value in fixed.items()]
        solved = dict(self._solved)
        refuted = self._refuted
        if not refuted:
            refuted = _take_in(solved, more, len(self._equations))
        return solved, self._equations + more, refuted


def _bit_of(cell):
    return 1 << (cell + 1)


def _is_odd(mask):
    return len(cells_in(mask)) % 2 == 1


def _equations_of(puzzle):
    clauses = [sum_clauses(relation) for relation in puzzle.book.relations]
    found = []
    for t, tie in enumerate(puzzle.ties):
        relation, cells = tie
        for _, places, bit in clauses[relation]:
            equation = bit
            for place in places:
                # A cell that comes twice counts for nothing.
                equation ^= _bit_of(cells[place])
            found.append((t, equation))
    return found


def _take_in(solved, equations, first_number):
    """Puts the equations into what is solved: for a cell an equation that tells it by cells with lower numbers.

    Beside each stand, as bits, the numbers of the equations that it was made of. Answers the numbers
    of equations that refute each other, 0 if none do.
    """
    for number, told in enumerate(equations, start=first_number):
        equation = told[1]
        used = 1 << number
        highest = equation.bit_length() - 2
        while highest in solved:
            equation ^= solved[highest][0]
            used ^= solved[highest][1]
            highest = equation.bit_length() - 2
        if equation == NEVER:
            return used
        if equation:
            solved[highest] = (equation, used)
    return 0
