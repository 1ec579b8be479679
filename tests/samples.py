"""Values that several tests pass where something else is expected."""

from eightcells.books import Book
from eightcells.relations import Relation


def nested(depth, kind, inner):
    """The inner thing within so many lists or tuples."""
    thing = inner
    for _ in range(depth):
        thing = kind([thing])
    return thing


def no_sequences():
    return [None, True, False, 0, 1, 3, -2, 10 ** 5000, "", "01", "((0,),)",
            Relation(1, [(0,)]), Book([Relation(1, [(0,)])])]


def any_values():
    """Values of each kind that "any value at all" names, none of them a row of two to four values."""
    deep = [nested(depth, kind, inner) for depth in (1, 2, 29, 30) for kind in (list, tuple)
            for inner in (None, "a", (0, 1), [0, 1])]
    return no_sequences() + deep + [[], (), [0, 1], [(0, 1)], ((0, 1),), (0, (1,)), (0, [1]), ("0", "1"),
                                    (None, None), (0, 1, 0, 1, 0), (True, False), (0, True), (False, 1)]
