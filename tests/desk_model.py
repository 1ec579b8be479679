"""A desk led by chance, and beside it what the points say of it, kept by hand."""

from eightcells.desk import Desk
from eightcells.puzzles import Puzzle
from tests.answers import shows_answer, true_answer
from tests.worked_out import drawn_book


def put(pairs, pair):
    return tuple(sorted(pairs + (pair,)))


def after(puzzle, start, move):
    """The puzzle and the start behind a move, made anew."""
    ties = list(puzzle.ties)
    if move[0] == "tie":
        ties.append((move[1], move[2]))
    elif move[0] == "take":
        del ties[move[1]]
    elif move[0] == "fix":
        start = put(start, (move[1], move[2]))
    else:
        start = tuple((cell, value) for cell, value in start if cell != move[1])
    return Puzzle(puzzle.book, puzzle.cell_count, ties), start


class Model:
    """What a desk is to hold. Its checks are told to the test case."""

    def __init__(self, case, book, cell_count):
        self.case = case
        self.desk = Desk(book, cell_count)
        self.now = (Puzzle(book, cell_count, ()), ())
        self.before = []
        self.undone = []
        self.papers = {}
        self.words = []

    def check(self):
        desk, case = self.desk, self.case
        case.assertEqual((desk.puzzle(), desk.start()), self.now)
        case.assertEqual(desk.done(), tuple(move for move, _ in self.before))
        case.assertEqual(desk.watched(), tuple(self.papers))
        for question, (claim, paper) in self.papers.items():
            case.assertEqual((desk.claim(question), desk.paper_for(question)), (claim, paper))
            case.assertEqual(claim, true_answer(*self.now, question))
            case.assertTrue(shows_answer(*self.now, question, claim, paper))

    def take_report(self, report):
        """Each line of the report is as told by what was kept before."""
        case = self.case
        case.assertIs(type(report), tuple)
        case.assertEqual([line[0] for line in report], list(self.papers))
        for question, word, claim in report:
            claim_before, paper_before = self.papers[question]
            kept = claim == claim_before and shows_answer(*self.now, question, claim, paper_before)
            case.assertEqual(word, "kept" if kept else "renewed" if claim == claim_before else "changed")
            self.words.append((question[0], word))
            if kept:
                case.assertEqual(self.desk.paper_for(question), paper_before)
            self.papers[question] = (claim, self.desk.paper_for(question))
        self.check()

    def move(self, move):
        self.before.append((move, self.now))
        self.now = after(*self.now, move)
        self.undone = []
        self.take_report(self.desk.move(move))

    def undo(self):
        move, self.now = self.before.pop()
        self.undone.append(move)
        self.take_report(self.desk.undo())

    def redo(self):
        move = self.undone.pop()
        self.before.append((move, self.now))
        self.now = after(*self.now, move)
        self.take_report(self.desk.redo())

    def watch(self, question):
        claim = self.desk.watch(question)
        if question in self.papers:
            self.case.assertEqual(claim, self.papers[question][0])
        else:
            self.papers[question] = (claim, self.desk.paper_for(question))
        self.check()

    def leave(self, question):
        self.case.assertIsNone(self.desk.leave(question))
        del self.papers[question]
        self.check()


def drawn_move(draw, puzzle, start):
    """A move that can be done, or None if the kind that was drawn has none."""
    kind = draw.choice(("tie", "tie", "tie", "take", "fix", "fix", "free"))
    fixed = [cell for cell, _ in start]
    free = [cell for cell in range(puzzle.cell_count) if cell not in fixed]
    if kind == "tie" and puzzle.cell_count:
        number = draw.randrange(len(puzzle.book))
        size = puzzle.book.relations[number].size
        return ("tie", number, tuple(draw.randrange(puzzle.cell_count) for _ in range(size)))
    if kind == "take" and puzzle.ties:
        return ("take", draw.randrange(len(puzzle.ties)))
    if kind == "fix" and free:
        return ("fix", draw.choice(free), draw.randint(0, 1))
    if kind == "free" and fixed:
        return ("free", draw.choice(fixed))
    return None


def questions_for(draw, cell_count):
    rows = [tuple(draw.randint(0, 1) for _ in range(cell_count)) for _ in range(2)]
    return [("fill",), ("fixed",), ("count",)] + [("first", row) for row in rows]


def led(case, draw, steps, most_cells=5):
    """A model led for so many steps."""
    book = drawn_book(draw, 3, (1, 2, 3), least=2)
    cell_count = draw.randint(0, most_cells)
    model = Model(case, book, cell_count)
    questions = questions_for(draw, cell_count)
    for _ in range(steps):
        what = draw.choice(("watch", "leave", "move", "move", "move", "move", "undo", "undo", "redo"))
        move = drawn_move(draw, *model.now)
        if what == "watch":
            model.watch(draw.choice(questions))
        elif what == "leave" and model.papers and draw.random() < 0.3:
            model.leave(draw.choice(list(model.papers)))
        elif what == "move" and move is not None:
            model.move(move)
        elif what == "undo" and model.before:
            model.undo()
        elif what == "redo" and model.undone:
            model.redo()
    return model
