"""Point [26], with [1] and [2]: questions, their answers, and papers of these."""

import unittest

from eightcells.books import Book
from eightcells.errors import InvalidQuestion, InvalidStart
from eightcells.puzzles import Puzzle
from eightcells.questions import answer_of, claim_holds, is_question, paper_of
from eightcells.relations import Relation
from tests.answers import papers_of_none, shows_answer, true_answer
from tests.cases import Case
from tests.drawn import ONE_OF_THREE, drawn_cases, hard_cases
from tests.refusals import assert_refuses
from tests.samples import any_values, is_all_plain, spoilt
from tests.test_filling import NO_STARTS
from tests.worked_out import all_fillings, all_rows, drawing

UNLIKE = Relation(2, [(0, 1), (1, 0)])
RISING = Relation(2, [(0, 0), (0, 1), (1, 1)])
EVEN = Relation(4, [row for row in all_rows(4) if sum(row) % 2 == 0])
NO = Relation(1, [(0,)])
YES = Relation(1, [(1,)])

NO_QUESTIONS = [value for value in any_values()] + [
    (), ("fill", ()), ("fill", 0), ("filled",), ("none",), ("fixed", ()), ("count", 0), ("count", ()), ("first",),
    ("first", ()), ("first", (0, 1)), ("first", (0, 1, 0, 1)), ("first", (0, 1, 2)), ("first", (0, True, 1)),
    ("first", [0, 1, 0]), ("first", None), ("first", (0, 1, 0), 0), ("first", ((0, 1, 0),)), ["fill"], ["fixed"],
    ["first", (0, 1, 0)], ["count"], "fill", "count", ("Fill",), ("fill ",), (("fill",),), (None,), ("first", "010"),
    ("first", (0, -1, 0)), ("first", (0, 1, None)), ("fixed", (0, 1, 0)), ("wishes", (0, 1, 0))]


def questions_of(draw, puzzle):
    rows = [tuple(draw.randint(0, 1) for _ in range(puzzle.cell_count)) for _ in range(2)]
    return [("fill",), ("fixed",), ("count",)] + [("first", row) for row in rows]


class IsQuestionTest(Case):

    def test_questions(self):
        puzzle = Puzzle(Book([UNLIKE]), 3, ())
        for question in [("fill",), ("fixed",), ("count",)] + [("first", row) for row in all_rows(3)]:
            self.assertIs(is_question(puzzle, question), True)
        self.assertIs(is_question(Puzzle(Book([UNLIKE]), 0, ()), ("first", ())), True)
        self.assertIs(is_question(value=("first", (0, 1)), puzzle=Puzzle(Book([UNLIKE]), 2, ())), True)

    def test_what_is_none(self):
        puzzle = Puzzle(Book([UNLIKE]), 3, ())
        for value in NO_QUESTIONS:
            self.assertIs(is_question(puzzle, value), False)


class AnswerTest(Case):

    def assert_answered(self, puzzle, start, question, words):
        claim, paper = answer_of(puzzle, start, question), paper_of(puzzle, start, question)
        self.assertTrue(is_all_plain(claim) and is_all_plain(paper))
        self.assertEqual(claim, true_answer(puzzle, start, question))
        self.assertTrue(shows_answer(puzzle, start, question, claim, paper))
        self.assertIs(claim_holds(puzzle, start, question, claim, paper), True)
        for more, part in papers_of_none(puzzle, start, question, claim, paper):
            assert_refuses(self, puzzle, more, part, words)
        self.assertEqual(paper_of(puzzle, start, question), paper)
        return claim[0]

    def test_drawn_and_hard_puzzles(self):
        draw = drawing(261)
        seen = []
        for puzzle, start, words in list(drawn_cases(262, 30)) + list(hard_cases(263, 30)):
            for question in questions_of(draw, puzzle):
                for pairs in ((), start):
                    seen.append((question[0], self.assert_answered(puzzle, pairs, question, words)))
        for kind in (("fill", "filled"), ("fill", "none"), ("fixed", "fixed"), ("fixed", "none"), ("first", "first"),
                     ("first", "none"), ("count", "count")):
            self.assertGreater(seen.count(kind), 40, kind)

    def test_worked_out_by_hand(self):
        puzzle = Puzzle(Book([UNLIKE, RISING]), 3, [(0, (0, 1)), (1, (1, 2))])
        for start, question, claim in (
                ((), ("fill",), ("filled",)), ((), ("fixed",), ("fixed", ())), ((), ("count",), ("count", 3)),
                (((2, 0),), ("fixed",), ("fixed", ((0, 1), (1, 0), (2, 0)))), (((2, 0),), ("count",), ("count", 1)),
                ((), ("first", (0, 0, 0)), ("first", (0, 1, 1))), (((0, 0), (2, 0)), ("fill",), ("none",)),
                (((0, 0), (2, 0)), ("fixed",), ("none",)), (((0, 0), (2, 0)), ("first", (0, 0, 0)), ("none",)),
                (((0, 0), (2, 0)), ("count",), ("count", 0))):
            self.assertEqual(answer_of(puzzle, start, question), claim)
            self.assert_answered(puzzle, start, question, ("majority",))
        self.assertEqual(paper_of(puzzle, (), ("count",)), ())
        self.assertEqual(paper_of(puzzle, ((2, 0),), ("fill",)), (1, 0, 0))

    def test_the_limits_of_count(self):
        ties = [(0, (k, k + 1, k + 2, k + 3)) for k in range(0, 30, 3)]
        puzzle = Puzzle(Book([EVEN]), 40, ties)
        self.assertEqual(answer_of(puzzle, (), ("count",)), ("count", 2 ** 30))
        self.assertIs(claim_holds(puzzle, (), ("count",), ("count", 2 ** 30), ()), True)
        self.assertIs(claim_holds(puzzle, (), ("count",), ("count", 2 ** 30 - 1), ()), False)
        puzzle = Puzzle(Book([ONE_OF_THREE]), 12, [(0, (0, 4, 8)), (0, (1, 4, 11))])
        self.assertEqual(answer_of(puzzle, (), ("count",)), ("count", 5 * 2 ** 7))

    def test_large_puzzles(self):
        puzzle = Puzzle(Book([RISING]), 40, [(0, (k, k + 1)) for k in range(39)] * 5)
        start = ((10, 1),)
        for question in (("fill",), ("fixed",), ("first", (0, 1) * 20)):
            claim, paper = answer_of(puzzle, start, question), paper_of(puzzle, start, question)
            self.assertIs(claim_holds(puzzle, start, question, claim, paper), True)
        self.assertEqual(answer_of(puzzle, start, ("fixed",)), ("fixed", tuple((k, 1) for k in range(10, 40))))

    def test_arguments_by_name(self):
        puzzle = Puzzle(Book([UNLIKE]), 2, [(0, (0, 1))])
        self.assertEqual(answer_of(question=("count",), start=(), puzzle=puzzle), ("count", 2))
        self.assertEqual(paper_of(question=("fill",), start=((0, 1),), puzzle=puzzle), (1, 0))
        self.assertIs(claim_holds(paper=(), claim=("count", 2), question=("count",), start=(), puzzle=puzzle), True)


class ClaimHoldsTest(Case):

    def assert_judged(self, puzzle, start, question, claim, paper):
        whether = shows_answer(puzzle, start, question, claim, paper)
        self.assertIs(claim_holds(puzzle, start, question, claim, paper), whether)
        if whether:
            self.assertEqual(claim, true_answer(puzzle, start, question))
        return whether

    def test_claims_and_papers_spoilt(self):
        draw = drawing(264)
        wrong = {}
        for puzzle, start, _ in list(drawn_cases(265, 4, 4)) + list(hard_cases(266, 4)):
            for question in questions_of(draw, puzzle):
                claim, paper = answer_of(puzzle, start, question), paper_of(puzzle, start, question)
                for other in spoilt(claim):
                    self.assert_judged(puzzle, start, question, other, paper)
                worse = list(spoilt(paper))
                for other in draw.sample(worse, min(80, len(worse))):
                    held = self.assert_judged(puzzle, start, question, claim, other)
                    wrong[question[0]] = wrong.get(question[0], 0) + (not held)
        self.assertGreater(min(wrong.values()), 150)

    def test_claims_of_another_kind_and_another_number(self):
        draw = drawing(267)
        for puzzle, start, _ in list(drawn_cases(268, 6, 4)) + list(hard_cases(269, 6)):
            questions = questions_of(draw, puzzle)
            answers = [(answer_of(puzzle, start, question), paper_of(puzzle, start, question))
                       for question in questions]
            many = len(all_fillings(puzzle, start))
            for question in questions:
                for claim, paper in answers:
                    self.assert_judged(puzzle, start, question, claim, paper)
                for claim in (("count", many), ("count", many + 1), ("count", many - 1), ("count", -many),
                              ("count", bool(many)), ("count", str(many)), ("count",), ("count", many, ()),
                              ["count", many], ("filled",), ("none",), ("none", ()), ("filled", ()), ("fixed",),
                              ("first",), ("fixed", None), ("first", None), question, ("fixed", start), "filled"):
                    for paper in ((), [], None, answers[0][1], (answers[0][1],), 0, False):
                        self.assert_judged(puzzle, start, question, claim, paper)

    def test_any_value_at_all(self):
        puzzle = Puzzle(Book([ONE_OF_THREE]), 3, [(0, (0, 1, 2))])
        for start in ((), ((0, 1), (1, 1))):
            for question in (("fill",), ("fixed",), ("first", (1, 1, 1)), ("count",)):
                claim, paper = answer_of(puzzle, start, question), paper_of(puzzle, start, question)
                for value in any_values():
                    self.assert_judged(puzzle, start, question, value, paper)
                    self.assert_judged(puzzle, start, question, claim, value)
                    self.assert_judged(puzzle, start, question, claim[:1] + (value,), paper)
                    self.assert_judged(puzzle, start, question, value, value)


class ErrorsTest(Case):

    def test_what_is_no_start_ahead_of_what_is_no_question(self):
        some = Puzzle(Book([UNLIKE]), 3, ())
        none = Puzzle(Book([NO, YES]), 3, [(0, (0,)), (1, (0,))])
        for puzzle in (some, none):
            for start in NO_STARTS:
                for question in (("fill",), ("count",), None):
                    for call in (answer_of, paper_of):
                        self.assert_raises_with(InvalidStart, "value", start, call, puzzle, start, question)
                    self.assert_raises_with(
                        InvalidStart, "value", start, claim_holds, puzzle, start, question, ("filled",), (0, 0, 0))
            for question in NO_QUESTIONS:
                for start in ((), ((0, 1),)):
                    for call in (answer_of, paper_of):
                        self.assert_raises_with(InvalidQuestion, "value", question, call, puzzle, start, question)
                    self.assert_raises_with(
                        InvalidQuestion, "value", question, claim_holds, puzzle, start, question, ("count", 8), ())


if __name__ == "__main__":
    unittest.main()
