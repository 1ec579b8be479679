"""Values that several tests pass where something else is expected, and a look at what comes back."""

from eightcells.books import Book
from eightcells.puzzles import Puzzle
from eightcells.relations import Relation


def nested(depth, kind, inner):
    """The inner thing within so many lists or tuples."""
    thing = inner
    for _ in range(depth):
        thing = kind([thing])
    return thing


def no_sequences():
    relation = Relation(1, [(0,)])
    return [None, True, False, 0, 1, 3, -2, 10 ** 5000, "", "01", "((0,),)",
            relation, Book([relation]), Puzzle(Book([relation]), 2, [(0, (1,))])]


def any_values():
    """Values of each kind that "any value at all" names, none of them a row of two to four values."""
    deep = [nested(depth, kind, inner) for depth in (1, 2, 29, 30) for kind in (list, tuple)
            for inner in (None, "a", (0, 1), [0, 1])]
    return no_sequences() + deep + [[], (), [0, 1], [(0, 1)], ((0, 1),), (0, (1,)), (0, [1]), ("0", "1"),
                                    (None, None), (0, 1, 0, 1, 0), (True, False), (0, True), (False, 1)]


def is_all_plain(value):
    """Whether it is an integer or a string, or tuples of such: no list in it, and no bool."""
    if type(value) is tuple:
        return all(is_all_plain(member) for member in value)
    return type(value) in (int, str)


def spoilt(value):
    """The value spoilt at one place each, within it too."""
    if type(value) is tuple:
        yield list(value)
        for k, member in enumerate(value):
            yield value[:k] + value[k + 1:]
            yield value[:k] + (member, member) + value[k + 1:]
            for worse in spoilt(member):
                yield value[:k] + (worse,) + value[k + 1:]
        for k in range(len(value) - 1):
            yield value[:k] + (value[k + 1], value[k]) + value[k + 2:]
        for more in (0, (), None):
            yield value + (more,)
    elif type(value) is int:
        yield from (value + 1, value - 1, -value, 1 - value, value + 2 ** 70, str(value), (value,))
        if value in (0, 1):
            yield bool(value)
    else:
        yield from (value.upper(), value + " ", value[:-1], 0)
    yield from (None, (), [], "chain", "and")
