"""Histories: what was done on a desk, and what it answered, told in a text."""

from eightcells.desk import MOST_CELLS, Desk
from eightcells.errors import InvalidText
from eightcells.puzzles import Puzzle
from eightcells.questions import answer_of, claim_holds
from eightcells.texts import FIGURES, book_and_cells, line_begin, write_puzzle

DEEPEST = 60
MOST_FIGURES = 12
LETTERS_AND_BLANK = "abcdefghijklmnopqrstuvwxyz "


def told(value):
    if isinstance(value, tuple):
        return "(" + "".join([told(member) + "," for member in value]) + ")"
    if isinstance(value, str):
        return '"' + value + '"'
    return str(value)


def untold(text):
    value, at = _value_at(text, 0, DEEPEST)
    if at != len(text):
        raise InvalidText(text, at)
    return value


def _value_at(text, at, depth):
    """The value that begins there, within which so many tuples may stand in one another, and the place behind it."""
    sign = text[at:at + 1]
    if sign == "(" and depth > 0:
        return _tuple_at(text, at, depth)
    if sign == '"':
        return _word_at(text, at)
    return _integer_at(text, at)


def _tuple_at(text, at, depth):
    members = []
    at += 1
    while text[at:at + 1] != ")":
        member, at = _value_at(text, at, depth - 1)
        if text[at:at + 1] != ",":
            raise InvalidText(text, at)
        members.append(member)
        at += 1
    return tuple(members), at + 1


def _word_at(text, at):
    end = _end_of(text, at + 1, LETTERS_AND_BLANK)
    if end == at + 1 or text[end:end + 1] != '"':
        raise InvalidText(text, end)
    return text[at + 1:end], end + 1


def _integer_at(text, at):
    begin = at + 1 if text[at:at + 1] == "-" else at
    end = _end_of(text, begin, FIGURES)
    figures = text[begin:end]
    if not 1 <= len(figures) <= MOST_FIGURES:
        raise InvalidText(text, begin)
    # No needless 0, and no -0.
    if figures[0] == "0" and text[at:end] != "0":
        raise InvalidText(text, begin)
    return int(text[at:end]), end


def _end_of(text, at, signs):
    """The place behind the signs of this kind that stand there."""
    while at < len(text) and text[at] in signs:
        at += 1
    return at


def write_history(desk):
    puzzle = desk.puzzle()
    lines = [write_puzzle(Puzzle(puzzle.book, puzzle.cell_count, ()))]
    for event, answers in desk.events():
        lines.append(" ".join([event[0]] + [told(what) for what in event[1:]]))
        for claim, paper in answers:
            lines.append("claim " + told(claim))
            lines.append("paper " + told(paper))
    return "\n".join(lines)


def history_holds(text):
    try:
        relived(text)
    except InvalidText:
        return False
    return True


def relived(text):
    lines = text.split("\n")
    book, cell_count = book_and_cells(text, lines)
    if cell_count > MOST_CELLS:
        raise InvalidText(text, line_begin(lines, len(book)))
    desk = Desk(book, cell_count)
    k = len(book) + 1
    while k < len(lines):
        event = _event_told(lines[k])
        if event is None or not desk.can(event):
            raise InvalidText(text, line_begin(lines, k))
        k += 1
        desk.change(event)
        answers = []
        for question in desk.asked(event):
            answers.append(_answer_told(text, lines, k, desk, question))
            k += 2
        desk.keep(event, answers)
    return desk


def _event_told(line):
    """What the line says was done, None if it says nothing of this kind."""
    if line in ("undo", "redo"):
        return (line,)
    for word in ("watch", "leave", "move"):
        what = _told_behind(word, line)
        if what is not None:
            return (word, what)
    return None


def _told_behind(word, line):
    """The value that is told behind the word and a blank, None if the line is no such line."""
    if not line.startswith(word + " "):
        return None
    try:
        return untold(line[len(word) + 1:])
    except InvalidText:
        return None


def _answer_told(text, lines, k, desk, question):
    """The claim and the paper that line k and the next one tell, which are to be right ones."""
    claim = _told_behind("claim", lines[k]) if k < len(lines) else None
    paper = _told_behind("paper", lines[k + 1]) if k + 1 < len(lines) else None
    if claim_holds(desk.puzzle(), desk.start(), question, claim, paper):
        return (claim, paper)
    # What is wrong is the claim, the paper, or that there is none.
    if claim == answer_of(desk.puzzle(), desk.start(), question):
        k += 1
    raise InvalidText(text, line_begin(lines, k) if k < len(lines) else len(text))
