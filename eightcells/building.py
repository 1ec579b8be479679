"""Ties laid on some cells so that just some rows stand there, by helper cells that have just one filling then."""

from eightcells.basics import all_rows


class Builder:
    """Lays ties, part by part, by a pattern: ties on eight cells.

    Where cell 0 is no and cell 7 is yes the pattern has three fillings: just one of the cells 4, 2, 1
    is yes, and the cells 3, 5, 6 are their opposites. What stands for cell 0 and cell 7 each time
    are the cells zero and one, the first two behind the cells that are there already.
    """

    def __init__(self, pattern, cell_count):
        self.zero = cell_count
        self.one = cell_count + 1
        self.ties = []
        # Each part ended: its helpers and its ties.
        self.parts = []
        # For each helper behind zero and one: it is yes just where these cells have these values.
        self.rules = []
        self._pattern = pattern
        self._next_helper = cell_count
        self._next_tie = 0
        self._opposites = {}
        self._marks = {}

    def cells_made(self):
        return self.one + 1 + len(self.rules)

    def end_part(self):
        cells = self.cells_made()
        ties = len(self.ties)
        self.parts.append((tuple(range(self._next_helper, cells)), tuple(range(self._next_tie, ties))))
        self._next_helper = cells
        self._next_tie = ties
        # What was made for one part is no helper of another.
        self._opposites = {self.zero: self.one, self.one: self.zero}
        self._marks = {}

    def put_base(self, pattern):
        """Makes zero and one unlike, by a pattern of which the two are the only filling, or it and its opposite."""
        # No, yes, no, yes and so on is one plain table; all others have unlike values where this one has like ones.
        ties = _moved(pattern, (self.zero, self.one) * 4)
        self.ties.extend(list({tie: True for tie in ties}))

    def put_rows(self, cells, rows):
        """Makes just these rows stand at the cells: one to four, none of them twice."""
        middle = len(cells) // 2
        for head in all_rows(middle):
            tails = all_rows(len(cells) - middle)
            right = [tail for tail in tails if head + tail in rows]
            wrong = [tail for tail in tails if head + tail not in rows]
            if wrong:
                self._neither(self._mark(cells[:middle], head), self._mark_of_some(cells[middle:], wrong, right))

    def _mark_of_some(self, cells, some, others):
        """A cell that is yes just where one of some rows stands at the cells, and none of the others."""
        if not others:
            return self.one
        if len(some) == 1:
            return self._mark(cells, some[0])
        if len(others) == 1:
            return self._opposite(self._mark(cells, others[0]))
        return self._opposite(self._neither(self._mark(cells, some[0]), self._mark(cells, some[1])))

    def _mark(self, cells, row):
        """A cell that is yes just where the row stands at the cells, two at most."""
        if not cells:
            return self.one
        if len(cells) == 1:
            return cells[0] if row[0] else self._opposite(cells[0])
        if (cells, row) not in self._marks:
            self._make_marks(cells)
        return self._marks[(cells, row)]

    def _make_marks(self, cells):
        """Four helpers, for each row at two cells the one that is yes."""
        x, y = cells
        first = self._helper(cells, (1, 0))
        both = self._helper(cells, (1, 1))
        self._just_one(self._opposite(x), first, both)
        second = self._helper(cells, (0, 1))
        self._just_one(self._opposite(y), second, both)
        none = self._helper(cells, (0, 0))
        self._just_one(x, second, none)
        for row, mark in (((0, 0), none), ((0, 1), second), ((1, 0), first), ((1, 1), both)):
            self._marks[(cells, row)] = mark

    def _neither(self, a, b):
        """Bars that both are yes. A helper that is yes just where both are no."""
        helper = self._helper((a, b), (0, 0))
        self._just_one(a, b, helper)
        return helper

    def _just_one(self, a, b, c):
        cells = (self.zero, c, b, self._opposite(a), a, self._opposite(b), self._opposite(c), self.one)
        self.ties.extend(_moved(self._pattern, cells))

    def _opposite(self, cell):
        """The cell that _just_one makes the opposite of this one."""
        if cell not in self._opposites:
            helper = self._helper((cell,), (0,))
            self._opposites[cell] = helper
            self._opposites[helper] = cell
        return self._opposites[cell]

    def _helper(self, cells, row):
        self.rules.append((cells, row))
        return self.cells_made() - 1


def _moved(pattern, cells):
    """The ties of the pattern, laid on these cells in the place of its own."""
    return [(relation, tuple([cells[cell] for cell in tied])) for relation, tied in pattern]
