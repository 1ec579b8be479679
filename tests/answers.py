"""Answers of questions and their papers by the words of point [26], tried on all rows."""

from tests.judge import shows
from tests.samples import is_all_plain
from tests.test_first import shows_first
from tests.test_fixed import shows_fixed
from tests.worked_out import all_fillings, first_of, fits, same_in_all


def true_answer(puzzle, start, question):
    rows = all_fillings(puzzle, start)
    if question[0] == "count":
        return ("count", len(rows))
    if not rows:
        return ("none",)
    if question[0] == "fill":
        return ("filled",)
    if question[0] == "fixed":
        return ("fixed", same_in_all(rows))
    return ("first", first_of(list(rows), question[1]))


def shows_answer(puzzle, start, question, claim, paper):
    """Whether the claim may answer the question and the paper is such a paper of it."""
    if type(claim) is not tuple or not claim or not is_all_plain(claim):
        return False
    if question[0] == "count":
        return claim == ("count", len(all_fillings(puzzle, start))) and type(paper) is tuple and paper == ()
    if claim == ("none",):
        return shows(puzzle, dict(start), paper)
    if question[0] == "fill":
        return (claim == ("filled",) and type(paper) is tuple and len(paper) == puzzle.cell_count
                and is_all_plain(paper) and set(paper) <= {0, 1} and fits(puzzle, paper, start))
    if len(claim) != 2 or claim[0] != question[0]:
        return False
    if question[0] == "fixed":
        return shows_fixed(puzzle, start, claim[1], paper)
    return shows_first(puzzle, question[1], start, claim[1], paper)


def papers_of_none(puzzle, start, question, claim, paper):
    """All papers of [15] in the paper, each with its start."""
    if claim == ("none",):
        return [(start, paper)]
    if question[0] == "fixed":
        return [(tuple(sorted(start + ((cell, 1 - value),))), part)
                for (cell, value), part in zip([pair for pair in claim[1] if pair not in start], paper[0])]
    if question[0] != "first":
        return []
    fixed, found = dict(start), []
    for cell, wish in enumerate(question[1]):
        if cell not in fixed and claim[1][cell] != wish:
            found.append((tuple(sorted({**fixed, cell: wish}.items())), paper[len(found)]))
        fixed[cell] = claim[1][cell]
    return found
