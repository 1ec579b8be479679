"""The errors of the program. Each keeps its arguments themselves as attributes."""


class CellError(ValueError):
    """What all errors of the program stand under; it is never made itself."""


class InvalidNumber(CellError):
    def __init__(self, value):
        self.value = value


class InvalidRelation(CellError):
    def __init__(self, value):
        self.value = value


class InvalidBook(CellError):
    def __init__(self, value):
        self.value = value


class InvalidPuzzle(CellError):
    def __init__(self, part, place):
        self.part = part
        self.place = place


class InvalidStart(CellError):
    def __init__(self, value):
        self.value = value


class InvalidFilling(CellError):
    def __init__(self, value):
        self.value = value


class InvalidTable(CellError):
    def __init__(self, value):
        self.value = value


class InvalidMove(CellError):
    def __init__(self, value):
        self.value = value


class InvalidQuestion(CellError):
    def __init__(self, value):
        self.value = value


class InvalidText(CellError):
    def __init__(self, text, at):
        self.text = text
        self.at = at


class Undefined(CellError):
    def __init__(self, what):
        self.what = what


class NothingToUndo(CellError):
    def __init__(self, word):
        self.word = word
