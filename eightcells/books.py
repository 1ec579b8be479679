"""Books: the relations that the ties of a puzzle are taken from."""

from eightcells.basics import is_sequence
from eightcells.errors import InvalidBook
from eightcells.relations import Relation

MOST_RELATIONS = 6


class Book:
    """One to six relations in their order. It never changes."""

    def __init__(self, relations):
        if not _are_relations(relations):
            raise InvalidBook(relations)
        self.relations = tuple(relations)

    def __eq__(self, other):
        return isinstance(other, Book) and self.relations == other.relations

    def __len__(self):
        return len(self.relations)


def _are_relations(thing):
    if not is_sequence(thing) or not 1 <= len(thing) <= MOST_RELATIONS:
        return False
    return all([isinstance(member, Relation) for member in thing])
