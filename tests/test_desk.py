"""Points [27] and [28], with [1], [2] and [4]: the desk."""

import unittest

from eightcells.books import Book
from eightcells.desk import Desk
from eightcells.errors import InvalidBook, InvalidMove, InvalidNumber, InvalidQuestion, NothingToUndo
from eightcells.puzzles import Puzzle
from eightcells.relations import Relation
from tests.cases import Case
from tests.answers import papers_of_none
from tests.desk_model import Model, led
from tests.refusals import assert_refuses
from tests.samples import any_values, is_all_plain
from tests.test_questions import NO_QUESTIONS
from tests.worked_out import all_rows, drawing

UNLIKE = Relation(2, [(0, 1), (1, 0)])
RISING = Relation(2, [(0, 0), (0, 1), (1, 1)])
ONE_OF_THREE = Relation(3, [(0, 0, 1), (0, 1, 0), (1, 0, 0)])
BOOK = Book([UNLIKE, RISING, ONE_OF_THREE])

NO_MOVES = [
    (), ("tie",), ("tie", 0), ("tie", 0, (0, 1), 0), ("tie", 0, [0, 1]), ["tie", 0, (0, 1)], ("tie", 3, (0, 1)),
    ("tie", -1, (0, 1)), ("tie", True, (0, 1)), ("tie", None, (0, 1)), ("tie", 0, (0,)), ("tie", 0, (0, 1, 2)),
    ("tie", 0, (0, 5)), ("tie", 0, (0, -1)), ("tie", 0, (0, True)), ("tie", 0, 1), ("tie", (0, (0, 1))),
    ("take",), ("take", 2), ("take", -1), ("take", True), ("take", False), ("take", None), ("take", 0, 0), ["take", 0],
    ("take", (0,)), ("take", "0"), ("fix",), ("fix", 0), ("fix", 4, 0), ("fix", 4, 1), ("fix", 5, 0), ("fix", -1, 0),
    ("fix", 0, 2), ("fix", 0, -1), ("fix", 0, True), ("fix", 0, None), ("fix", False, 0), ("fix", None, 0),
    ("fix", 0, 0, 0), ["fix", 0, 0], ("fix", (0, 0)), ("fix", 4), ("tie", 4), ("lay", 4), ("lay", 0), ("lay", 0, 0),
    ("free",), ("free", 0), ("free", 5), ("free", -1),
    ("free", True), ("free", None), ("free", 4, 0), ["free", 4], ("free", (4, 0)), ("free", [4]), ("lay", 0, (0, 1)),
    ("undo",), ("Tie", 0, (0, 1)), "tie", ("fill",), (None, 0, (0, 1)), (("take", 0),), ("free", "4")]


def state_of(desk):
    questions = desk.watched()
    return (desk.puzzle(), desk.start(), desk.done(), questions,
            [(desk.claim(question), desk.paper_for(question)) for question in questions])


class DeskTest(Case):

    def test_a_new_desk(self):
        for cell_count in (0, 1, 12):
            desk = Desk(BOOK, cell_count)
            self.assertEqual(state_of(desk), (Puzzle(BOOK, cell_count, ()), (), (), (), []))
        self.assertEqual(Desk(cell_count=3, book=BOOK).puzzle().cell_count, 3)

    def test_it_is_not_iterable(self):
        self.assertRaises(TypeError, iter, Desk(BOOK, 3))

    def test_what_is_no_book_and_no_number_of_cells(self):
        numbers = [value for value in any_values() if type(value) is not int or not 0 <= value <= 12]
        for value in any_values():
            if type(value) is not Book:
                for cell_count in (3, 13, None):
                    self.assert_raises_with(InvalidBook, "value", value, Desk, value, cell_count)
        for cell_count in numbers + [13, 40, -1, True, False, None, "3", (3,), [3], 10 ** 5000]:
            self.assert_raises_with(InvalidNumber, "value", cell_count, Desk, BOOK, cell_count)

    def test_moves_worked_out_by_hand(self):
        desk = Desk(BOOK, 4)
        for move in (("tie", 0, (0, 1)), ("tie", 1, (1, 2)), ("fix", 3, 0), ("fix", 0, 1), ("take", 0), ("free", 3),
                     ("tie", 2, (0, 0, 3))):
            self.assertEqual(desk.move(move), ())
        self.assertEqual(desk.puzzle(), Puzzle(BOOK, 4, [(1, (1, 2)), (2, (0, 0, 3))]))
        self.assertEqual(desk.start(), ((0, 1),))
        self.assertEqual(desk.done()[-2:], (("free", 3), ("tie", 2, (0, 0, 3))))
        desk.undo()
        desk.undo()
        desk.undo()
        self.assertEqual(desk.puzzle().ties, ((0, (0, 1)), (1, (1, 2))))
        self.assertEqual(desk.start(), ((0, 1), (3, 0)))
        self.assertEqual(len(desk.done()), 4)
        self.assertEqual(desk.redo(), ())
        self.assertEqual(desk.puzzle().ties, ((1, (1, 2)),))
        self.assertEqual(desk.done()[-1], ("take", 0))

    def test_reports_worked_out_by_hand(self):
        desk = Desk(BOOK, 3)
        questions = [("fill",), ("count",), ("fixed",), ("first", (1, 1, 1))]
        self.assertEqual([desk.watch(question) for question in questions],
                         [("filled",), ("count", 8), ("fixed", ()), ("first", (1, 1, 1))])
        self.assertEqual(desk.watched(), tuple(questions))
        self.assertEqual(desk.paper_for(("first", (1, 1, 1))), ())
        report = desk.move(("tie", 0, (0, 1)))
        self.assertEqual([line[0] for line in report], questions)
        self.assertEqual([line[2] for line in report],
                         [("filled",), ("count", 4), ("fixed", ()), ("first", (1, 0, 1))])
        self.assertEqual([line[1] for line in report][1::2], ["changed", "changed"])
        self.assertIn(report[0][1], ("kept", "renewed"))
        self.assertEqual([line[2] for line in desk.move(("fix", 1, 1))],
                         [("filled",), ("count", 2), ("fixed", ((0, 0), (1, 1))), ("first", (0, 1, 1))])
        report = desk.move(("tie", 0, (1, 1)))
        self.assertEqual([line[1:] for line in report], [
            ("changed", ("none",)), ("changed", ("count", 0)), ("changed", ("none",)), ("changed", ("none",))])
        # Whatever is laid now, the tie on one cell refuses it, as the papers say, which stay.
        papers = [desk.paper_for(question) for question in questions]
        report = desk.move(("tie", 1, (2, 0)))
        self.assertEqual([line[1] for line in report], ["kept"] * 4)
        self.assertEqual([desk.paper_for(question) for question in questions], papers)

    def test_a_paper_of_before_stays_where_another_would_be_found(self):
        desk = Desk(BOOK, 2)
        desk.watch(("fill",))
        first = desk.paper_for(("fill",))
        desk.move(("fix", 0, 1 - first[0]))
        second = desk.paper_for(("fill",))
        self.assertNotEqual(second, first)
        self.assertEqual(desk.undo()[0][1], "kept")
        self.assertEqual(desk.paper_for(("fill",)), second)
        again = Desk(BOOK, 2)
        again.watch(("fill",))
        self.assertEqual(again.paper_for(("fill",)), first)

    def test_renewed(self):
        desk = Desk(BOOK, 2)
        desk.watch(("fill",))
        row = desk.paper_for(("fill",))
        self.assertEqual(desk.move(("fix", 0, 1 - row[0])), ((("fill",), "renewed", ("filled",)),))
        self.assertEqual(desk.undo(), ((("fill",), "kept", ("filled",)),))
        self.assertEqual(desk.move(("fix", 0, row[0])), ((("fill",), "renewed", ("filled",)),))
        self.assertEqual(desk.move(("free", 0)), ((("fill",), "kept", ("filled",)),))

    def test_drawn_steps(self):
        draw = drawing(271)
        words = []
        for _ in range(40):
            words.extend(led(self, draw, 60).words)
        for question in ("fill", "fixed", "first"):
            for word in ("kept", "renewed", "changed"):
                self.assertGreater(words.count((question, word)), 10, (question, word))
        self.assertGreater(min(words.count(("count", word)) for word in ("kept", "changed")), 15)
        self.assertEqual(words.count(("count", "renewed")), 0)

    def test_papers_are_of_the_kind_told(self):
        draw = drawing(272)
        for _ in range(12):
            model = led(self, draw, 25)
            for question, (claim, paper) in model.papers.items():
                for start, part in papers_of_none(*model.now, question, claim, paper):
                    assert_refuses(self, model.now[0], start, part)

    def test_twelve_cells_and_sixty_moves(self):
        book = Book([Relation(3, all_rows(3)[1:7]), ONE_OF_THREE, Relation(4, all_rows(4)[1:])])
        draw = drawing(273)
        desk = Desk(book, 12)
        questions = [("fill",), ("fixed",), ("count",), ("first", (1,) * 12), ("first", (0, 1) * 6)]
        for question in questions:
            desk.watch(question)
        for k in range(60):
            if k % 6 == 5:
                report = desk.undo() if k % 4 else desk.move(("take", 0))
            else:
                number = draw.randrange(3)
                report = desk.move(("tie", number, tuple(draw.sample(range(12), book.relations[number].size))))
            self.assertEqual([line[0] for line in report], questions)
            self.assertTrue(is_all_plain(report))


class UndoTest(Case):

    def test_nothing_to_undo(self):
        desk = Desk(BOOK, 2)
        self.assert_raises_with(NothingToUndo, "word", "undo", desk.undo)
        self.assert_raises_with(NothingToUndo, "word", "redo", desk.redo)
        desk.move(("fix", 0, 1))
        self.assert_raises_with(NothingToUndo, "word", "redo", desk.redo)
        desk.undo()
        self.assert_raises_with(NothingToUndo, "word", "undo", desk.undo)
        self.assertEqual(desk.start(), ())
        desk.redo()
        self.assertEqual(desk.start(), ((0, 1),))
        self.assert_raises_with(NothingToUndo, "word", "redo", desk.redo)

    def test_the_one_undone_last_is_done_again_first(self):
        desk = Desk(BOOK, 3)
        moves = (("fix", 0, 1), ("fix", 1, 0), ("tie", 0, (0, 1)))
        for move in moves:
            desk.move(move)
        for _ in range(3):
            desk.undo()
        for many in (1, 2, 3):
            desk.redo()
            self.assertEqual(desk.done(), moves[:many])

    def test_a_move_ends_what_may_be_done_again(self):
        desk = Desk(BOOK, 3)
        desk.move(("fix", 0, 1))
        desk.move(("fix", 1, 0))
        desk.undo()
        desk.undo()
        desk.redo()
        desk.move(("fix", 2, 0))
        self.assert_raises_with(NothingToUndo, "word", "redo", desk.redo)
        self.assertEqual(desk.done(), (("fix", 0, 1), ("fix", 2, 0)))
        self.assertEqual(desk.start(), ((0, 1), (2, 0)))

    def test_watching_leaving_and_errors_do_not(self):
        desk = Desk(BOOK, 3)
        desk.move(("fix", 0, 1))
        desk.undo()
        desk.watch(("fill",))
        desk.leave(("fill",))
        desk.watch(("count",))
        for call, value in ((desk.move, ("fix", 3, 0)), (desk.watch, None), (desk.leave, ("fill",))):
            with self.assertRaises((InvalidMove, InvalidQuestion)):
                call(value)
        self.assertEqual(desk.redo(), ((("count",), "changed", ("count", 4)),))
        self.assertEqual(desk.undo(), ((("count",), "changed", ("count", 8)),))
        self.assertEqual(desk.watched(), (("count",),))
        self.assertEqual(desk.done(), ())

    def test_before_is_just_ahead_of_the_call(self):
        desk = Desk(BOOK, 2)
        desk.watch(("count",))
        self.assertEqual(desk.move(("tie", 0, (0, 1)))[0][1:], ("changed", ("count", 2)))
        self.assertEqual(desk.move(("tie", 0, (1, 0)))[0][1:], ("kept", ("count", 2)))
        self.assertEqual(desk.undo()[0][1:], ("kept", ("count", 2)))
        self.assertEqual(desk.undo()[0][1:], ("changed", ("count", 4)))
        self.assertEqual(desk.redo()[0][1:], ("changed", ("count", 2)))


class WatchTest(Case):

    def test_a_question_that_is_watched(self):
        desk = Desk(BOOK, 2)
        self.assertEqual(desk.watch(("count",)), ("count", 4))
        self.assertEqual(desk.watch(question=("fill",)), ("filled",))
        before = state_of(desk)
        self.assertEqual(desk.watch(("count",)), ("count", 4))
        self.assertEqual(state_of(desk), before)
        self.assertIsNone(desk.leave(("count",)))
        self.assertEqual(desk.watched(), (("fill",),))
        desk.watch(("count",))
        self.assertEqual(desk.watched(), (("fill",), ("count",)))
        self.assertIsNone(desk.leave(question=("fill",)))
        self.assertEqual(desk.claim(question=("count",)), ("count", 4))
        self.assertEqual(desk.paper_for(question=("count",)), ())

    def test_wishes_are_questions_of_their_own(self):
        desk = Desk(BOOK, 2)
        desk.move(move=("tie", 0, (0, 1)))
        for row in all_rows(2):
            self.assertEqual(desk.watch(("first", row)), ("first", (row[0], 1 - row[0])))
        self.assertEqual(len(desk.watched()), 4)
        desk.leave(("first", (0, 1)))
        self.assertEqual(desk.watched(), (("first", (0, 0)), ("first", (1, 0)), ("first", (1, 1))))

    def test_what_is_no_question_and_what_is_not_watched(self):
        desk = Desk(BOOK, 3)
        desk.watch(("first", (0, 1, 0)))
        desk.watch(("count",))
        before = state_of(desk)
        for value in NO_QUESTIONS + [("first", (0, 1, False)), ("first", (False, True, False))]:
            for call in (desk.watch, desk.leave, desk.claim, desk.paper_for):
                self.assert_raises_with(InvalidQuestion, "value", value, call, value)
        for question in (("fill",), ("fixed",), ("first", (0, 0, 0))):
            for call in (desk.leave, desk.claim, desk.paper_for):
                self.assert_raises_with(InvalidQuestion, "value", question, call, question)
        self.assertEqual(state_of(desk), before)


class MoveTest(Case):

    def test_what_is_no_move(self):
        model = Model(self, BOOK, 5)
        for move in (("tie", 0, (0, 1)), ("tie", 1, (2, 3)), ("fix", 4, 0)):
            model.move(move)
        model.watch(("fixed",))
        model.undo()
        model.redo()
        model.undo()
        # One move may be done again, cell 4 is free.
        for move in any_values() + [("free", 4), ("free", 0), ("take", 2)]:
            self.assert_raises_with(InvalidMove, "value", move, model.desk.move, move)
        model.check()
        model.redo()
        before = state_of(model.desk)
        for move in any_values() + NO_MOVES:
            self.assert_raises_with(InvalidMove, "value", move, model.desk.move, move)
        self.assertEqual(state_of(model.desk), before)
        model.check()
        for move in (("tie", 2, (0, 0, 4)), ("take", 1), ("fix", 0, 1), ("free", 4), ("take", 1), ("fix", 4, 1)):
            model.move(move)

    def test_moves_need_their_cells(self):
        desk = Desk(BOOK, 0)
        for move in (("tie", 0, (0, 0)), ("take", 0), ("fix", 0, 0), ("free", 0)):
            self.assert_raises_with(InvalidMove, "value", move, desk.move, move)
        self.assertEqual(desk.watch(("first", ())), ("first", ()))


if __name__ == "__main__":
    unittest.main()
