"""The desk, on which ties are laid and taken away while questions are watched."""

from eightcells.basics import is_number_below
from eightcells.books import Book
from eightcells.errors import InvalidBook, InvalidMove, InvalidNumber, InvalidQuestion, NothingToUndo
from eightcells.moves import is_move, moved
from eightcells.puzzles import Puzzle
from eightcells.questions import claim_by, claim_holds, is_question, paper_by
from eightcells.solving import Solver

MOST_CELLS = 12


class Desk:
    """A puzzle and a start that moves change, and watched questions, each with its answer and a paper of it.

    What is done on it are events: ("watch", question), ("leave", question), ("move", move), ("undo",)
    and ("redo",). can, change and keep take them in two steps, so that a history may bring its own papers.
    """

    def __init__(self, book, cell_count):
        if not isinstance(book, Book):
            raise InvalidBook(book)
        if not is_number_below(cell_count, MOST_CELLS + 1):
            raise InvalidNumber(cell_count)
        self._puzzle = Puzzle(book, cell_count, ())
        self._start = ()
        # The moves done, each with the puzzle and the start ahead of it, and the moves undone.
        self._done = []
        self._undone = []
        # For each watched question its claim and its paper.
        self._answers = {}
        self._events = []

    def puzzle(self):
        return self._puzzle

    def start(self):
        return self._start

    def done(self):
        return tuple([move for move, _, _ in self._done])

    def watched(self):
        return tuple(self._answers)

    def move(self, move):
        if not self.can(("move", move)):
            raise InvalidMove(move)
        return self._report_of(("move", move))

    def undo(self):
        if not self.can(("undo",)):
            raise NothingToUndo("undo")
        return self._report_of(("undo",))

    def redo(self):
        if not self.can(("redo",)):
            raise NothingToUndo("redo")
        return self._report_of(("redo",))

    def watch(self, question):
        if not is_question(self._puzzle, question):
            raise InvalidQuestion(question)
        if question not in self._answers:
            self.keep(("watch", question), [self._found(Solver(self._puzzle), question)])
        return self.claim(question)

    def leave(self, question):
        if not self._is_watched(question):
            raise InvalidQuestion(question)
        event = ("leave", question)
        self.change(event)
        self.keep(event, [])

    def claim(self, question):
        if not self._is_watched(question):
            raise InvalidQuestion(question)
        return self._answers[question][0]

    def paper_for(self, question):
        if not self._is_watched(question):
            raise InvalidQuestion(question)
        return self._answers[question][1]

    def _is_watched(self, thing):
        # Only a question may be looked for: to Python True is 1, and a list cannot be a key.
        return is_question(self._puzzle, thing) and thing in self._answers

    def _found(self, solver, question):
        return (claim_by(solver, self._start, question), paper_by(solver, self._start, question))

    def _report_of(self, event):
        self.change(event)
        solver = Solver(self._puzzle) if self._answers else None
        report = []
        answers = []
        for question in self.asked(event):
            claim, paper = self._answers[question]
            word = "kept"
            if not claim_holds(self._puzzle, self._start, question, claim, paper):
                before = claim
                claim, paper = self._found(solver, question)
                word = "renewed" if claim == before else "changed"
            report.append((question, word, claim))
            answers.append((claim, paper))
        self.keep(event, answers)
        return tuple(report)

    def can(self, event):
        word = event[0]
        if word == "watch":
            return is_question(self._puzzle, event[1]) and event[1] not in self._answers
        if word == "leave":
            return self._is_watched(event[1])
        if word == "move":
            return is_move(self._puzzle, self._start, event[1])
        return bool(self._done if word == "undo" else self._undone)

    def change(self, event):
        """Does what the event says, but for the answers: these are to be kept next. To watch is nothing else."""
        word = event[0]
        if word == "leave":
            del self._answers[event[1]]
        elif word == "move":
            self._undone = []
            self._make(event[1])
        elif word == "undo":
            move, self._puzzle, self._start = self._done.pop()
            self._undone.append(move)
        elif word == "redo":
            self._make(self._undone.pop())

    def _make(self, move):
        self._done.append((move, self._puzzle, self._start))
        self._puzzle, self._start = moved(self._puzzle, self._start, move)

    def asked(self, event):
        """The questions whose answers are to be kept behind the event, in order."""
        if event[0] == "watch":
            return (event[1],)
        return () if event[0] == "leave" else self.watched()

    def keep(self, event, answers):
        """Keeps what answers the questions asked, each a claim and a paper, and the event with it."""
        for question, answer in zip(self.asked(event), answers):
            self._answers[question] = answer
        self._events.append((event, tuple(answers)))

    def events(self):
        """What was done so far, each event with the claims and papers kept behind it."""
        return tuple(self._events)
