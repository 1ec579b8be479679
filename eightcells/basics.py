"""The words that all points share: integer, sequence, value, row."""


def is_integer(thing):
    # Python counts True and False as integers, this program never does.
    return isinstance(thing, int) and not isinstance(thing, bool)


def is_number_below(thing, bound):
    return is_integer(thing) and 0 <= thing < bound


def is_sequence(thing):
    return isinstance(thing, (list, tuple))


def is_value(thing):
    return is_number_below(thing, 2)


def is_row(thing, size):
    return isinstance(thing, tuple) and len(thing) == size and all([is_value(member) for member in thing])
