"""Point [9], with [2]: puzzles written as texts and read again."""

import re
import unittest
from itertools import product

from eightcells.books import Book
from eightcells.errors import CellError, InvalidText
from eightcells.puzzles import Puzzle
from eightcells.relations import Relation
from eightcells.texts import read_puzzle, write_puzzle
from tests.worked_out import all_rows, drawing, drawn_book, drawn_puzzle

UNLIKE = Relation(2, [(0, 1), (1, 0)])
ONE_OF_THREE = Relation(3, [(0, 0, 1), (0, 1, 0), (1, 0, 0)])
YES = Relation(1, [(1,)])
EITHER = Relation(1, [(0,), (1,)])
FOUR = Relation(4, [(0, 0, 1, 1), (1, 1, 1, 1), (0, 0, 0, 0)])
WRITTEN = [
    (Puzzle(Book([YES]), 0, ()), "relation 1 1\ncells 0"),
    (Puzzle(Book([EITHER]), 1, ()), "relation 1 0,1\ncells 1"),
    (Puzzle(Book([UNLIKE]), 3, [(0, (0, 1)), (0, (1, 2)), (0, (2, 0))]),
     "relation 2 01,10\ncells 3\ntie 0 0,1\ntie 0 1,2\ntie 0 2,0"),
    (Puzzle(Book([ONE_OF_THREE, YES]), 40, [(1, (39,)), (0, (10, 10, 9)), (1, (39,))]),
     "relation 3 001,010,100\nrelation 1 1\ncells 40\ntie 1 39\ntie 0 10,10,9\ntie 1 39"),
    (Puzzle(Book([YES, UNLIKE, ONE_OF_THREE, FOUR, EITHER, YES]), 12, [(3, (11, 0, 1, 0)), (5, (3,)), (1, (3, 3))]),
     "relation 1 1\nrelation 2 01,10\nrelation 3 001,010,100\nrelation 4 0000,0011,1111\nrelation 1 0,1\nrelation 1 1\n"
     "cells 12\ntie 3 11,0,1,0\ntie 5 3\ntie 1 3,3"),
    (Puzzle(Book([YES]), 999999, [(0, (999998,)), (0, (100000,))]),
     "relation 1 1\ncells 999999\ntie 0 999998\ntie 0 100000"),
    (Puzzle(Book([Relation(2, all_rows(2))]), 2, [(0, (1, 0))]), "relation 2 00,01,10,11\ncells 2\ntie 0 1,0"),
]

GOOD = ["relation 2 01,10", "relation 3 001,010,100", "cells 12", "tie 0 10,1", "tie 1 3,2,11", "tie 0 0,0"]
NUMBER = "(?:0|[1-9][0-9]{0,5})"


def place_of_wrong(text):
    """The place that the point tells, or None for a puzzle's text: worked out by patterns."""
    relations, cells, at = [], None, 0
    for line in text.split("\n"):
        fits = False
        if cells is None and re.fullmatch("relation [1-4] [01]+(,[01]+)*", line) and len(relations) < 6:
            size, rows = line.split(" ")[1:]
            rows = rows.split(",")
            fits = {len(row) for row in rows} == {int(size)} and rows == sorted(set(rows))
            relations.append(int(size))
        elif cells is None and relations and re.fullmatch(f"cells {NUMBER}", line):
            fits, cells = True, int(line.split(" ")[1])
        elif cells is not None and re.fullmatch(f"tie {NUMBER} {NUMBER}(,{NUMBER})*", line):
            number, tied = line.split(" ")[1:]
            tied = [int(word) for word in tied.split(",")]
            fits = int(number) < len(relations) and relations[int(number)] == len(tied) and max(tied) < cells
        if not fits:
            return at
        at += len(line) + 1
    return len(text) if cells is None else None


class WriteTest(unittest.TestCase):

    def test_written_out_by_hand(self):
        for puzzle, text in WRITTEN:
            self.assertIs(type(write_puzzle(puzzle)), str)
            self.assertEqual(write_puzzle(puzzle), text)

    def test_read_again_it_is_the_puzzle(self):
        for puzzle, text in WRITTEN:
            made = read_puzzle(text)
            self.assertIs(type(made), Puzzle)
            self.assertEqual(made, puzzle)
            self.assertIs(type(made.ties), tuple)

    def test_drawn_puzzles(self):
        draw = drawing(91)
        for _ in range(300):
            cell_count = draw.choice((1, 2, 9, 10, 11, 40, 100, 999999))
            puzzle = drawn_puzzle(draw, drawn_book(draw, 6), cell_count, draw.randint(0, 8))
            self.assertIsNone(place_of_wrong(write_puzzle(puzzle)))
            self.assertEqual(read_puzzle(write_puzzle(puzzle)), puzzle)

    def test_arguments_by_name(self):
        puzzle, text = WRITTEN[2]
        self.assertEqual(write_puzzle(puzzle=puzzle), text)
        self.assertEqual(read_puzzle(text=text), puzzle)


class ReadTest(unittest.TestCase):

    def assert_wrong(self, text, at):
        with self.assertRaises(CellError) as told:
            read_puzzle(text)
        self.assertIs(type(told.exception), InvalidText)
        self.assertEqual((told.exception.text, told.exception.at), (text, at))
        self.assertIs(type(told.exception.at), int)
        self.assertEqual(place_of_wrong(text), at)

    def assert_wrong_line(self, k, line, lines=GOOD):
        """Wrong at its begin if this line stands in the place of line k, whatever stands behind it."""
        ahead = "".join(other + "\n" for other in lines[:k])
        for behind in ("", "\n", "\n" + "\n".join(lines[k + 1:]), "\nno line", "\n\n"):
            self.assert_wrong(ahead + line + behind, len(ahead))

    def test_the_good_text_is_one(self):
        self.assertEqual(write_puzzle(read_puzzle("\n".join(GOOD))), "\n".join(GOOD))

    def test_the_empty_text_and_line_feeds_alone(self):
        for text in ("", "\n", "\n\n\n"):
            self.assert_wrong(text, 0)

    def test_an_empty_line(self):
        for k in range(len(GOOD)):
            self.assert_wrong_line(k, "")

    def test_a_line_feed_at_the_end(self):
        for many in range(1, 7):
            text = "\n".join(GOOD[:many]) + "\n"
            self.assert_wrong(text, len(text))

    def test_relation_lines_alone(self):
        for many in range(1, 7):
            text = "\n".join(["relation 2 01,10"] * many)
            self.assert_wrong(text, len(text))

    def test_a_seventh_relation(self):
        six = ["relation 2 01,10"] * 6
        read_puzzle("\n".join(six + ["cells 1"]))
        self.assert_wrong_line(6, "relation 2 01,10", six + ["cells 1"])
        self.assert_wrong_line(6, "relation 1 1", six + ["relation 1 1", "cells 1"])

    def test_no_relation(self):
        for line in ("cells 12", "cells 0", "tie 0 10,1", "tie 0 0"):
            self.assert_wrong_line(0, line)

    def test_wrong_relation_lines(self):
        for line in ("relation 2 10,01", "relation 2 01,01", "relation 2 01,10,01", "relation 2 01,00,10",
                     "relation 2 01,100", "relation 2 0,1", "relation 2 01,1", "relation 3 01,10", "relation 1 01,10",
                     "relation 2 ", "relation 2", "relation", "relation 2 01,", "relation 2 ,01", "relation 2 01,,10",
                     "relation 2 ,", "relation 0 ", "relation 0 01", "relation 5 00000", "relation 5 00000,11111",
                     "relation 02 01,10", "relation +2 01,10", "relation -2 01", "relation 2.0 01", "relation  01",
                     "relation 2 02,10", "relation 2 0a", "relation 2 0-1", "relation 2 +1", "relation 2 0 1",
                     "relation 2 01 10", "relation 2 01, 10", "Relation 2 01,10", "relations 2 01,10",
                     "relation2 01,10",
                     "relation 2 01;10", "2 01,10", "relation two 01,10", "relation 2 (0,1)", "relation 2 01,10 0"):
            self.assert_wrong_line(0, line)
            self.assert_wrong_line(1, line)

    def test_wrong_cells_lines(self):
        for line in ("cells", "cells ", "cells  12", "cells 012", "cells 00", "cells +12", "cells -1", "cells -0",
                     "cells 1000000", "cells 0000012", "cells 12.", "cells 1_2", "cells 12,", "cells 12 0", "Cells 12",
                     "cell 12", "cells12", "cells x", "cells 1e1", "cells twelve", "cells 12 "):
            self.assert_wrong_line(2, line)

    def test_wrong_tie_lines(self):
        for line in ("tie", "tie 0", "tie 0 ", "tie  0,1", "tie 0 0", "tie 0 0,1,2", "tie 1 0,1", "tie 2 0,1",
                     "tie 0 0,12",
                     "tie 0 12,0", "tie 0 0,13", "tie 00 0,1", "tie 0 00,1", "tie 0 0,01", "tie 0 0,,1", "tie 0 ,0,1",
                     "tie 0 0,1,", "tie 0 0, 1", "tie 0 0 1", "tie -0 0,1", "tie 0 -1,0", "tie +0 0,1", "tie 0 0,+1",
                     "tie 0 0,1000000", "tie 0 0,0000001", "tie 1000000 0,1", "tie 0 0,1 0", "Tie 0 0,1", "ties 0 0,1",
                     "tie0 0,1", "tie 0 a,b", "tie a 0,1", "tie 0 0,1_0", "tie 0 0;1", "tie 0 (0,1)", "tie 0 0,1 "):
            for k in (3, 4, 5):
                self.assert_wrong_line(k, line)

    def test_lines_in_a_place_where_they_may_not_stand(self):
        for k in (0, 1, 2):
            self.assert_wrong_line(k, "tie 0 0,1")
        for k in (3, 4, 5):
            self.assert_wrong_line(k, "cells 12")
            self.assert_wrong_line(k, "relation 2 01,10")

    def test_blanks_more_and_less(self):
        for k, line in enumerate(GOOD):
            for wrong in (" " + line, line + " ", line.replace(" ", "  "), line.replace(" ", ""),
                          line.replace(",", ", "),
                          line.replace(",", " ,"), line.replace(",", " "), line + "\r", line + "\t",
                          line.replace(" ", "\t", 1)):
                if wrong != line:
                    self.assert_wrong_line(k, wrong)

    def test_what_python_takes_for_figures_and_line_ends(self):
        for sign in "\u0661\u0967\uff11\u00b9\u2460\u00bd\u2160\u4e00\U0001d7cf":
            self.assert_wrong_line(2, "cells " + sign)
            self.assert_wrong_line(2, "cells 1" + sign)
            self.assert_wrong_line(3, f"tie {sign} 3,2,11")
            self.assert_wrong_line(3, f"tie 0 0,{sign}")
            self.assert_wrong_line(3, f"tie 0 0,1{sign}")
            self.assert_wrong_line(0, f"relation {sign} 1")
            self.assert_wrong_line(0, f"relation 2 0{sign}")
        for sign in "\r\x0b\x0c\x1c\x1d\x85\u2028\u2029\u00a0\u3000\x00":
            self.assert_wrong("relation 1 1" + sign + "cells 1", 0)
            self.assert_wrong("relation 1 1\ncells 1" + sign, 13)
            self.assert_wrong("relation 1 1\ncells" + sign + "1", 13)
            self.assert_wrong("relation 1 1\ncells 1\ntie 0" + sign + "0", 21)

    def test_lines_left_out_doubled_and_exchanged(self):
        text = "relation 2 01,10\ncells 2\ntie 0 0,1"
        self.assert_wrong("cells 2\ntie 0 0,1", 0)
        self.assert_wrong("relation 2 01,10\ntie 0 0,1", 17)
        self.assert_wrong("relation 2 01,10\ncells 2\ncells 2\ntie 0 0,1", 25)
        self.assert_wrong("cells 2\nrelation 2 01,10\ntie 0 0,1", 0)
        self.assert_wrong("relation 2 01,10\ntie 0 0,1\ncells 2", 17)
        self.assert_wrong(text + "\n" + text, len(text) + 1)
        for lines in product(GOOD + ["cells 3", "relation 1 1", ""], repeat=3):
            self.assert_judged("\n".join(lines))

    def test_each_sign_left_out_doubled_and_another(self):
        text = "\n".join(GOOD)
        for k in range(len(text)):
            for between in ("", text[k] * 2, " ", ",", "0", "1", "2", "9", "\n", "a", "\u0661"):
                self.assert_judged(text[:k] + between + text[k + 1:])

    def assert_judged(self, text):
        at = place_of_wrong(text)
        if at is None:
            self.assertEqual(write_puzzle(read_puzzle(text)), text)
        else:
            self.assert_wrong(text, at)

    def test_long_texts(self):
        lines = ["relation 4 0000,1111", "cells 100000"] + ["tie 0 99999,99998,99997,0"] * 7600
        text = "\n".join(lines)
        self.assertGreater(len(text), 197000)
        self.assertEqual(len(read_puzzle(text).ties), 7600)
        self.assertEqual(write_puzzle(read_puzzle(text)), text)
        self.assert_wrong(text + "\n", len(text) + 1)
        self.assert_wrong(text + ",0", len(text) - len(lines[2]))
        self.assert_wrong("0" * 200000, 0)
        self.assert_wrong("relation 1 1\ncells " + "1" * 199000, 13)
        self.assert_wrong("relation 1 1\ncells 1\ntie 0 " + "0," * 99000, 21)
        self.assert_wrong("relation 1 " + "0,1," * 49000, 0)
        self.assert_wrong(" " * 200000, 0)
        self.assert_wrong("\n" * 200000, 0)


if __name__ == "__main__":
    unittest.main()
