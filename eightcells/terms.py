"""Terms: which of the six deeds a table of three places gives, and how."""

from eightcells.basics import is_number_below, is_tuple, opposite_of
from eightcells.errors import InvalidTable, Undefined
from eightcells.tables import DEEDS, is_table, is_word, made_row, table_of, widened

DEEPEST = 12
MOST_PLACES_CLAIMED = 1000

# The tables of the three places.
PLACE_TABLES = ((0, 0, 0, 0, 1, 1, 1, 1), (0, 0, 1, 1, 0, 0, 1, 1), (0, 1, 0, 1, 0, 1, 0, 1))

# Of a table that is not plain one of these terms, or what _turned_back makes of it, tells one of
# the six:
# - What makes the same of (0, 0, 0) and (1, 1, 1) tells "all no" or "all yes" by the first term.
# - Else it makes 0 and 1 of them, or 1 and 0, and then turned back 0 and 1.
# - Of three values two are alike. So it makes nothing but what the next three terms tell: of two
#   like values and another one, which stands behind, between or ahead of them. Each tells "and",
#   "or", the value of the two or that of the one.
# - If there is no "and" and no "or": always that of the two is "majority", always that of the one
#   is "odd one", both by (0, 1, 2). That of the one in one of the three ways is plain, in two
#   ways it is "majority" by one of the last three terms.
TERMS_TO_TRY = (
    (0, 0, 0),
    (0, 0, 1), (0, 1, 0), (1, 0, 0),
    (0, 1, 2),
    ((0, 1, 2), 1, 2), (0, (0, 1, 2), 2), (0, 1, (0, 1, 2)))


def term_table(table, term):
    if not is_table(table, 3):
        raise InvalidTable(table)
    told = _told(table, term, DEEPEST)
    if told is None:
        raise Undefined("term")
    return told


def _told(table, term, depth):
    """The table that the term tells, or None if it is no term of at most this depth."""
    if is_number_below(term, 3):
        return PLACE_TABLES[term]
    if depth == 0 or not is_tuple(term, 3):
        return None
    tables = []
    for part in term:
        told = _told(table, part, depth - 1)
        if told is None:
            return None
        tables.append(told)
    return made_row(table, tables)


def is_plain(table):
    return table in PLACE_TABLES or opposite_of(table) in PLACE_TABLES


def term_of(table):
    if not is_table(table, 3):
        raise InvalidTable(table)
    if is_plain(table):
        raise Undefined("plain")
    terms = TERMS_TO_TRY + tuple([_turned_back(term) for term in TERMS_TO_TRY])
    return [pair for pair in [_claim_of(table, term) for term in terms] if pair is not None][0]


def _claim_of(table, term):
    """The term with the word of what it tells, or None if this is none of the six."""
    told = _told(table, term, DEEPEST)
    for word in DEEDS:
        if told == widened(DEEDS[word]):
            return (word, term)
    return None


def _turned_back(term):
    """The term for the table that turns the value it makes: by itself, of three like values."""
    if not isinstance(term, tuple):
        return term
    turned = tuple([_turned_back(part) for part in term])
    return (turned, turned, turned)


def term_holds(table, claim):
    if not is_tuple(claim, 2):
        return False
    word, term = claim
    told = _told(table, term, DEEPEST)
    if told is None or not is_word(word) or _place_count(term) > MOST_PLACES_CLAIMED:
        return False
    return told == widened(table_of(word))


def _place_count(term):
    if not isinstance(term, tuple):
        return 1
    return sum([_place_count(part) for part in term])
