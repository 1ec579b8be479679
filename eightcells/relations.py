"""Relations: which rows of one to four values a tie allows."""

from eightcells.basics import is_integer, is_number_below, is_row, is_sequence, opposite_of
from eightcells.errors import InvalidNumber, InvalidRelation, Undefined

MOST_PLACES = 4


class Relation:
    """A non-empty set of rows of like size. It never changes."""

    def __init__(self, size, rows):
        if not _is_size(size) or not _are_rows(rows, size):
            raise InvalidRelation((size, rows))
        self.size = size
        self.rows = tuple(sorted(set(rows)))

    def __eq__(self, other):
        return isinstance(other, Relation) and self.size == other.size and self.rows == other.rows

    def __len__(self):
        return len(self.rows)

    def has(self, row):
        # To Python (True, 0) is (1, 0), so whether it is a row at all is asked first.
        return is_row(row, self.size) and row in self.rows

    def opposite(self):
        return Relation(self.size, [opposite_of(row) for row in self.rows])

    def read_at(self, places):
        if not _are_places(places, self.size):
            raise InvalidNumber(places)
        return Relation(len(places), [tuple([row[place] for place in places]) for row in self.rows])

    def alike(self, i, j):
        for place in (i, j):
            if not is_number_below(place, self.size):
                raise InvalidNumber(place)
        return _relation_of(self.size, [row for row in self.rows if row[i] == row[j]])

    def both(self, other):
        if self.size != other.size:
            raise Undefined("size")
        return _relation_of(self.size, [row for row in self.rows if row in other.rows])

    def beside(self, other):
        size = self.size + other.size
        if size > MOST_PLACES:
            raise Undefined("size")
        return Relation(size, [row + more for row in self.rows for more in other.rows])


def _is_size(thing):
    return is_integer(thing) and 1 <= thing <= MOST_PLACES


def _are_rows(thing, size):
    return is_sequence(thing) and len(thing) > 0 and all([is_row(member, size) for member in thing])


def _are_places(thing, size):
    if not is_sequence(thing) or not 1 <= len(thing) <= MOST_PLACES:
        return False
    return all([is_number_below(member, size) for member in thing])


def _relation_of(size, rows):
    """The relation of rows that were picked; there may be none left, and no relation is empty."""
    if not rows:
        raise Undefined("relation")
    return Relation(size, rows)
