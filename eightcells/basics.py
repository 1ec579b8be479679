"""The words that all points share: integer, number, sequence, value, row, rising, opposite."""


def is_integer(thing):
    # Python counts True and False as integers, this program never does.
    return isinstance(thing, int) and not isinstance(thing, bool)


def is_number(thing):
    return is_integer(thing) and thing >= 0


def is_number_below(thing, bound):
    return is_integer(thing) and 0 <= thing < bound


def is_sequence(thing):
    return isinstance(thing, (list, tuple))


def is_tuple(thing, length):
    return isinstance(thing, tuple) and len(thing) == length


def is_value(thing):
    return is_number_below(thing, 2)


def is_row(thing, size):
    return is_tuple(thing, size) and all([is_value(member) for member in thing])


def is_rising(numbers):
    return all([low < high for low, high in zip(numbers, numbers[1:])])


def row_number(row):
    """Which one it is of all rows of so many values, ascending."""
    number = 0
    for value in row:
        number = 2 * number + value
    return number


def opposite_of(row):
    return tuple([1 - value for value in row])


def all_rows(size):
    """All rows of so many values, ascending."""
    rows = [()]
    for _ in range(size):
        rows = [row + (value,) for row in rows for value in (0, 1)]
    return rows
