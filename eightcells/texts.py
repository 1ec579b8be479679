"""Texts: puzzles written in lines, and read again."""

from eightcells.books import MOST_RELATIONS, Book
from eightcells.errors import InvalidText
from eightcells.puzzles import Puzzle, is_tie
from eightcells.relations import Relation

# Python takes signs of many scripts for figures; a text has these alone.
FIGURES = "0123456789"
MOST_FIGURES = 6
SIZES = ("1", "2", "3", "4")


def write_puzzle(puzzle):
    lines = [_relation_line(relation) for relation in puzzle.book.relations]
    lines.append(f"cells {puzzle.cell_count}")
    lines.extend([_tie_line(tie) for tie in puzzle.ties])
    return "\n".join(lines)


def _relation_line(relation):
    rows = ["".join([str(value) for value in row]) for row in relation.rows]
    return f"relation {relation.size} " + ",".join(rows)


def _tie_line(tie):
    relation, cells = tie
    return f"tie {relation} " + ",".join([str(cell) for cell in cells])


def read_puzzle(text):
    lines = text.split("\n")
    book, cell_count = book_and_cells(text, lines)
    ties = []
    for k in range(len(book) + 1, len(lines)):
        tie = _tie_told(lines[k])
        if not is_tie(tie, book, cell_count):
            raise InvalidText(text, line_begin(lines, k))
        ties.append(tie)
    return Puzzle(book, cell_count, ties)


def book_and_cells(text, lines):
    """What the first lines of the text tell: one for each relation of the book, and one for the number of cells."""
    relations = _relations_ahead(lines)
    many = len(relations)
    if many == len(lines):
        raise InvalidText(text, len(text))
    cell_count = _cells_told(lines[many])
    if many == 0 or cell_count is None:
        raise InvalidText(text, line_begin(lines, many))
    return Book(relations), cell_count


def line_begin(lines, k):
    return sum([len(line) + 1 for line in lines[:k]])


def _relations_ahead(lines):
    """The relations that the first lines tell, up to the first line that tells none, six at most."""
    relations = []
    for line in lines[:MOST_RELATIONS]:
        relation = _relation_told(line)
        if relation is None:
            break
        relations.append(relation)
    return relations


def _relation_told(line):
    words = line.split(" ")
    if len(words) != 3 or words[0] != "relation" or words[1] not in SIZES:
        return None
    size = int(words[1])
    rows = [_row_told(word) for word in words[2].split(",")]
    if not all([len(row) == size for row in rows]):
        return None
    # Relation itself takes rows in any order; a text has one order alone.
    if not all([low < high for low, high in zip(rows, rows[1:])]):
        return None
    return Relation(size, rows)


def _row_told(word):
    """The row of these figures; () if other signs are among them."""
    if not all([sign in "01" for sign in word]):
        return ()
    return tuple([int(sign) for sign in word])


def _cells_told(line):
    words = line.split(" ")
    if len(words) != 2 or words[0] != "cells":
        return None
    return _number_told(words[1])


def _tie_told(line):
    """What the line tells if it is a tie's line; there may be None where it tells no number."""
    words = line.split(" ")
    if len(words) != 3 or words[0] != "tie":
        return None
    return (_number_told(words[1]), tuple([_number_told(word) for word in words[2].split(",")]))


def _number_told(word):
    if not 1 <= len(word) <= MOST_FIGURES or not all([sign in FIGURES for sign in word]):
        return None
    if word[0] == "0" and len(word) > 1:
        return None
    return int(word)
