"""Fillings, and papers that none is there: found in the way that a deed which keeps the book allows."""

from eightcells.masks import Masks, cells_in, masks_of, spread
from eightcells.puzzles import fillings
from eightcells.rings import ring_of
from eightcells.sums import Sums
from eightcells.tables import kept_by


class Solver:
    """Fills a puzzle, or refuses it with a paper, for one start after another, each as a dict of fixed cells."""

    def __init__(self, puzzle):
        self.puzzle = puzzle
        self._masks = Masks(puzzle)
        words = kept_by(puzzle.book, fixed=True)
        self._kind = _kind_for(words)
        # Where the odd one keeps the book fillings are counted by sums, whatever the kind.
        self._sums = Sums(puzzle) if "odd one" in words else None

    def filling(self, fixed):
        """Some filling by which these cells have these values, or None."""
        if self._kind == "sum":
            return self._sums.filling(fixed)
        masks = self._masks
        known, yes = masks_of(fixed)
        known, yes, _, empty = spread(masks, known, yes, masks.ties)
        if empty is not None:
            return None
        found = self._searched(known, yes) if self._kind == "split" else self._grown(known, yes)
        return None if found is None else tuple([found >> cell & 1 for cell in range(masks.cell_count)])

    def _grown(self, known, yes):
        """The cells that are yes in a filling. Where a deed keeps the book no value must be taken back."""
        for cell in range(self._masks.cell_count):
            if not known >> cell & 1:
                decided = self._decided(known, yes, cell, 0) or self._decided(known, yes, cell, 1)
                if decided is None:
                    return None
                known, yes = decided
        return yes

    def _searched(self, known, yes):
        """The cells that are yes in a filling, whatever the book."""
        waiting = [(known, yes)]
        while waiting:
            known, yes = waiting.pop()
            cell = self._undecided(known, yes)
            if cell is None:
                return yes
            both = [self._decided(known, yes, cell, value) for value in (1, 0)]
            waiting.extend([decided for decided in both if decided is not None])
        return None

    def _decided(self, known, yes, cell, value):
        """What is known and what is yes with this value of the cell, None if it refutes itself."""
        known, yes, _, empty = spread(
            self._masks, known | 1 << cell, yes | value << cell, self._masks.ties_at[cell])
        return (known, yes) if empty is None else None

    def _undecided(self, known, yes):
        """A cell of a tie with views as few as can be; None if all ties let anything stand in what is not known."""
        best = None
        fewest = None
        for t in self._masks.ties:
            left = cells_in(self._masks.cells[t] & ~known)
            many = len(self._masks.rows_left(t, known, yes))
            if many < 1 << len(left) and (fewest is None or many < fewest):
                best = left[0]
                fewest = many
        return best

    def refusal(self, fixed):
        """A paper that no filling has these values, where this is so."""
        if self._kind == "sum":
            return self._sums.refusal(fixed)
        known, yes = masks_of(fixed)
        if self._kind == "ring":
            return self._empty_tie(known, yes) or ring_of(self._masks, known, yes)
        return self._chains(known, yes)

    def _empty_tie(self, known, yes):
        for t in self._masks.ties:
            if not self._masks.rows_left(t, known, yes):
                return ("chain", (), t)
        return None

    def _chains(self, known, yes):
        """A chain, or chains behind splits: of a book that and or or keeps the first chain is enough."""
        all_known, all_yes, steps, empty = spread(self._masks, known, yes, self._masks.ties)
        if empty is not None:
            return ("chain", tuple(steps), empty)
        cell = self._undecided(all_known, all_yes)
        known |= 1 << cell
        return ("split", cell, self._chains(known, yes), self._chains(known, yes | 1 << cell))

    def how_many(self, fixed):
        """How many fillings have these values."""
        if self._sums is not None:
            return self._sums.how_many(fixed)
        return len(fillings(self.puzzle, tuple(sorted(fixed.items()))))


def _kind_for(words):
    """The kind of paper that is enough, besides a chain without steps, for a book kept by these of the last four."""
    if "and" in words or "or" in words:
        return "chain"
    if "majority" in words:
        return "ring"
    if "odd one" in words:
        return "sum"
    return "split"
