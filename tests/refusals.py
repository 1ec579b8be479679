"""Papers that the package makes: judged twice, and of the kind that point [17] tells for the book."""

from eightcells.papers import none_holds
from tests.judge import shows
from tests.samples import is_all_plain
from tests.worked_out import words_kept


def kind_told(puzzle, words, paper):
    """Whether it is of the kind that point [17] tells for books which these of the last four deeds keep."""
    if "and" in words or "or" in words:
        return paper[0] == "chain"
    if paper[0] == "chain" and words:
        return paper[1] == ()
    if "majority" in words:
        return paper[0] == "ring" and max(len(paper[2]), len(paper[3])) <= 2 * puzzle.cell_count
    if "odd one" in words:
        ties = [t for t, _, _ in paper[1]]
        return paper[0] == "sum" and len(set(ties)) == len(ties)
    return paper[0] in ("chain", "split", "ring", "sum")


def assert_refuses(case, puzzle, start, paper, words=None):
    case.assertTrue(is_all_plain(paper))
    case.assertIs(none_holds(puzzle, start, paper), True)
    case.assertTrue(shows(puzzle, dict(start), paper))
    case.assertTrue(kind_told(puzzle, words_kept(puzzle.book, True) if words is None else words, paper))


def put_in(start, *pairs):
    """The start with these pairs, too."""
    return tuple(sorted(start + pairs))
