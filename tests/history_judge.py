"""Texts of point [29] read word by word, with none of the program's functions but the classes."""

import re
from ast import literal_eval
from warnings import catch_warnings, simplefilter

from eightcells.books import Book
from eightcells.puzzles import Puzzle
from eightcells.relations import Relation
from tests.answers import shows_answer, true_answer
from tests.desk_model import after


def by_hand(value):
    """The text of a value."""
    if type(value) is tuple:
        return "(%s)" % "".join(by_hand(member) + "," for member in value)
    return '"%s"' % value if type(value) is str else "%d" % value


def read_by_hand(text):
    """The value whose text this is, or None."""
    if not re.fullmatch(r'[-0-9a-z ",()]+', text):
        return None
    try:
        with catch_warnings():
            simplefilter("ignore")
            value = literal_eval(text)
    except (ValueError, SyntaxError, MemoryError, RecursionError):
        return None
    return value if is_told(value, 60) and by_hand(value) == text else None


def is_told(value, depth):
    if type(value) is tuple:
        return depth > 0 and all(is_told(member, depth - 1) for member in value)
    if type(value) is str:
        return re.fullmatch("[a-z ]+", value) is not None
    return type(value) is int and abs(value) < 10 ** 12


def is_header_line(line, k, relations):
    match = re.fullmatch("relation ([1-4]) ([01]+(,[01]+)*)", line)
    if not match or k == 6:
        return False
    rows = match[2].split(",")
    if any(len(row) != int(match[1]) for row in rows) or rows != sorted(set(rows)):
        return False
    relations.append(Relation(int(match[1]), [tuple(int(sign) for sign in row) for row in rows]))
    return True


class Reading:
    """A text led through line by line; wrong tells the number of the first wrong line, or None."""

    def __init__(self, text):
        self.lines = text.split("\n")
        self.k = 0
        self.wrong = None
        self.papers = {}
        self.done, self.undone = [], []
        self.now = None
        try:
            self.read()
        except ValueError as told:
            self.wrong = told.args[0]

    def line(self):
        if self.k == len(self.lines):
            raise ValueError(self.k)
        self.k += 1
        return self.lines[self.k - 1]

    def demand(self, whether):
        if not whether:
            raise ValueError(self.k - 1)

    def read(self):
        relations = []
        line = self.line()
        while is_header_line(line, len(relations), relations):
            line = self.line()
        match = re.fullmatch("cells (0|[1-9][0-9]?)", line)
        self.demand(relations and match and int(match[1]) <= 12)
        self.now = (Puzzle(Book(relations), int(match[1]), ()), ())
        while self.k < len(self.lines):
            self.read_event(self.line())

    def read_event(self, line):
        word, _, rest = line.partition(" ")
        value = read_by_hand(rest)
        if word in ("undo", "redo"):
            self.demand(line == word and (self.done if word == "undo" else self.undone))
        else:
            self.demand(value is not None and word in ("watch", "leave", "move"))
        if word == "watch":
            self.demand(self.is_question(value) and value not in self.papers)
            self.read_answer(value)
        elif word == "leave":
            self.demand(value in self.papers)
            del self.papers[value]
        else:
            self.change(word, value)
            for question in list(self.papers):
                self.read_answer(question)

    def change(self, word, move):
        if word == "undo":
            move, self.now = self.done.pop()
            self.undone.append(move)
            return
        if word == "move":
            self.demand(self.is_move(move))
            self.undone = []
        else:
            move = self.undone.pop()
        self.done.append((move, self.now))
        self.now = after(*self.now, move)

    def read_answer(self, question):
        line = self.line()
        claim = read_by_hand(line[6:])
        self.demand(line[:6] == "claim " and claim == true_answer(*self.now, question))
        line = self.line()
        paper = read_by_hand(line[6:])
        self.demand(line[:6] == "paper " and paper is not None
                    and shows_answer(*self.now, question, claim, paper))
        self.papers[question] = (claim, paper)

    def is_question(self, value):
        if value in (("fill",), ("fixed",), ("count",)):
            return True
        return (type(value) is tuple and len(value) == 2 and value[0] == "first" and type(value[1]) is tuple
                and len(value[1]) == self.now[0].cell_count and all(member in (0, 1) for member in value[1]))

    def is_move(self, move):
        puzzle, start = self.now
        fixed = dict(start)
        if type(move) is not tuple or len(move) not in (2, 3) or move[0] not in ("tie", "take", "fix", "free"):
            return False
        if len(move) != {"tie": 3, "take": 2, "fix": 3, "free": 2}[move[0]]:
            return False
        if move[0] == "tie":
            relations = puzzle.book.relations
            return (move[1] in range(len(relations)) and type(move[2]) is tuple
                    and len(move[2]) == relations[move[1]].size
                    and all(cell in range(puzzle.cell_count) for cell in move[2]))
        if move[0] == "take":
            return move[1] in range(len(puzzle.ties))
        if move[0] == "fix":
            return move[1] in range(puzzle.cell_count) and move[1] not in fixed and move[2] in (0, 1)
        return move[1] in range(puzzle.cell_count) and move[1] in fixed


def first_wrong_place(text):
    """The place of the first wrong line, the text's length if lines are lacking, None if the text holds."""
    reading = Reading(text)
    if reading.wrong is None:
        return None
    return min(len(text), sum(len(line) + 1 for line in reading.lines[:reading.wrong]))
