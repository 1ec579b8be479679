"""Questions of a puzzle and a start: their answers, and papers of these."""

from eightcells.basics import is_integer, is_row, is_tuple
from eightcells.errors import InvalidQuestion, InvalidStart
from eightcells.filling import first_holds, first_refusals, first_row
from eightcells.fixed import count, fixed_holds, fixed_refusals, pairs_and_fillings
from eightcells.papers import none_holds
from eightcells.puzzles import fixed_by, is_filling, is_start, keeps_start
from eightcells.solving import Solver

FILLED = ("filled",)
NONE = ("none",)


def is_question(puzzle, value):
    if value in (("fill",), ("fixed",), ("count",)):
        return True
    return is_tuple(value, 2) and value[0] == "first" and is_row(value[1], puzzle.cell_count)


def answer_of(puzzle, start, question):
    _check_question(puzzle, start, question)
    return claim_by(Solver(puzzle), start, question)


def paper_of(puzzle, start, question):
    _check_question(puzzle, start, question)
    return paper_by(Solver(puzzle), start, question)


def claim_holds(puzzle, start, question, claim, paper):
    _check_question(puzzle, start, question)
    word = question[0]
    if word == "count":
        return _is_claim(claim, word) and _is_count(puzzle, start, claim[1]) and paper == ()
    if claim == NONE:
        return none_holds(puzzle, start, paper)
    if word == "fill":
        return claim == FILLED and is_filling(puzzle, paper) and keeps_start(paper, start)
    if not _is_claim(claim, word):
        return False
    if word == "fixed":
        return fixed_holds(puzzle, start, claim[1], paper)
    return first_holds(puzzle, question[1], start, claim[1], paper)


def _check_question(puzzle, start, question):
    if not is_start(puzzle, start):
        raise InvalidStart(start)
    if not is_question(puzzle, question):
        raise InvalidQuestion(question)


def _is_claim(thing, word):
    return is_tuple(thing, 2) and thing[0] == word


def _is_count(puzzle, start, thing):
    return is_integer(thing) and thing == count(puzzle, start)


def claim_by(solver, start, question):
    word = question[0]
    if word == "count":
        return ("count", solver.how_many(fixed_by(start)))
    if word == "fill":
        return NONE if solver.filling(fixed_by(start)) is None else FILLED
    if word == "fixed":
        agreed = pairs_and_fillings(solver, start)
        return NONE if agreed is None else ("fixed", agreed[0])
    row = first_row(solver, question[1], start)
    return NONE if row is None else ("first", row)


def paper_by(solver, start, question):
    word = question[0]
    if word == "count":
        return ()
    fixed = fixed_by(start)
    filling = solver.filling(fixed)
    if filling is None:
        return solver.refusal(fixed)
    if word == "fill":
        return filling
    if word == "fixed":
        pairs, found = pairs_and_fillings(solver, start)
        return (fixed_refusals(solver, start, pairs), found)
    wishes = question[1]
    return first_refusals(solver, wishes, start, first_row(solver, wishes, start))
