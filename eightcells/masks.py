"""Sets of cells as integers, bit k for cell k: in this form it is found fast what ties force."""


class Masks:
    """The ties of a puzzle: their numbers, of each its cells and its rows, of each cell the ties at it.

    A row is told by the cells that are yes in it.
    """

    def __init__(self, puzzle):
        relations = puzzle.book.relations
        self.cell_count = puzzle.cell_count
        self.ties = list(range(len(puzzle.ties)))
        self.cells = [_mask_of(cells) for _, cells in puzzle.ties]
        self.rows = [_yes_by_row(relations[relation], cells) for relation, cells in puzzle.ties]
        self.ties_at = [[] for _ in range(puzzle.cell_count)]
        for t, mask in enumerate(self.cells):
            for cell in cells_in(mask):
                self.ties_at[cell].append(t)

    def rows_left(self, t, known, yes):
        """The rows of tie t that agree with what is known."""
        fixed = known & self.cells[t]
        return [row for row in self.rows[t] if not (row ^ yes) & fixed]


def _mask_of(cells):
    mask = 0
    for cell in cells:
        mask |= 1 << cell
    return mask


def _yes_by_row(relation, cells):
    found = []
    for row in relation.rows:
        yes = _mask_of([cell for cell, value in zip(cells, row) if value])
        no = _mask_of([cell for cell, value in zip(cells, row) if not value])
        # A cell that stands in the tie twice has one value.
        if not yes & no:
            found.append(yes)
    return found


def cells_in(mask):
    found = []
    while mask:
        lowest = mask & -mask
        found.append(lowest.bit_length() - 1)
        mask ^= lowest
    return found


def masks_of(fixed):
    """The cells that are fixed, and those that are fixed to be yes."""
    return _mask_of(list(fixed)), _mask_of([cell for cell, value in fixed.items() if value])


def spread(masks, known, yes, ties):
    """Fixes what these ties force, and what is forced by that, and so on.

    Answers what is known and what is yes then, the steps (tie, cell, value) in their order,
    and the tie without views that was come to, or None.
    """
    steps = []
    waiting = list(ties)
    while waiting:
        t = waiting.pop()
        rows = masks.rows_left(t, known, yes)
        if not rows:
            return known, yes, steps, t
        always, ever = _always_and_ever(rows)
        new = masks.cells[t] & ~known & (always | ~ever)
        for cell in cells_in(new):
            steps.append((t, cell, always >> cell & 1))
            waiting.extend(masks.ties_at[cell])
        known |= new
        yes |= new & always
    return known, yes, steps, None


def _always_and_ever(rows):
    """The cells that are yes in all of the rows, and those that are yes in one at least."""
    always = rows[0]
    ever = rows[0]
    for row in rows:
        always &= row
        ever |= row
    return always, ever
