"""The interface's names, and what of LANGUAGE.md can be seen from the text of the files."""

import ast
import unittest
from inspect import signature
from pathlib import Path

import eightcells
from eightcells import (
    books, carrying, chains, desk, eight, errors, filling, fixed, forms, histories, papers, puzzles, questions, relations,
    tables, terms, texts, writing)

PACKAGE = Path(eightcells.__file__).parent
IMPORTED = {"eightcells", "__future__", "heapq", "math", "itertools", "collections"}
FILES = sorted(PACKAGE.glob("**/*.py"))

CLASSES = [
    (relations, "Relation", ["size", "rows"], {
        "has": ["row"], "opposite": [], "read_at": ["places"], "alike": ["i", "j"], "both": ["other"],
        "beside": ["other"], "__eq__": ["other"], "__len__": []}),
    (books, "Book", ["relations"], {"__eq__": ["other"], "__len__": []}),
    (puzzles, "Puzzle", ["book", "cell_count", "ties"], {
        "with_tie": ["tie"], "without": ["t"], "__eq__": ["other"]}),
    (carrying, "Carried", ["puzzle", "book"], {"on": ["filling"], "back": ["filling"]}),
    (desk, "Desk", ["book", "cell_count"], {
        "puzzle": [], "start": [], "move": ["move"], "undo": [], "redo": [], "done": [], "watch": ["question"],
        "leave": ["question"], "watched": [], "claim": ["question"], "paper_for": ["question"]}),
    (errors, "InvalidNumber", ["value"], {}),
    (errors, "InvalidPuzzle", ["part", "place"], {}),
    (errors, "InvalidText", ["text", "at"], {}),
]

FUNCTIONS = [
    (puzzles, ["is_filling(puzzle, value)", "is_start(puzzle, value)", "fillings(puzzle, start=())",
               "views(puzzle, t, start=())"]),
    (texts, ["write_puzzle(puzzle)", "read_puzzle(text)"]),
    (tables, ["is_table(value, m)", "worth_of(table, row)", "made_row(table, rows)", "break_of(book, table)",
              "table_of(word)", "kept_by(book, *, fixed=False)", "blamed(book)", "widened(table)"]),
    (terms, ["term_table(table, term)", "is_plain(table)", "term_of(table)", "term_holds(table, claim)"]),
    (eight, ["deed_puzzle(book, m)", "side(book, *, fixed=False)", "side_paper(book, *, fixed=False)",
             "side_holds(book, claim, paper, *, fixed=False)"]),
    (papers, ["none_holds(puzzle, start, paper)"]),
    (chains, ["forced(puzzle, start=())"]),
    (filling, ["fill(puzzle, start=())", "least_filling(puzzle, start=())", "greatest_filling(puzzle, start=())",
               "first_by(puzzle, wishes, start=())", "first_paper(puzzle, wishes, start=())",
               "first_holds(puzzle, wishes, start, claim, paper)"]),
    (fixed, ["fixed_cells(puzzle, start=())", "fixed_paper(puzzle, start=())",
             "fixed_holds(puzzle, start, claim, paper)", "count(puzzle, start=())"]),
    (forms, ["fulfils(row, clause)", "told_by(size, clauses)", "least_kept(relation, word)", "if_clauses(relation)",
             "pair_clauses(relation)", "sum_clauses(relation)"]),
    (writing, ["least_written(book, rows)", "written_claim(book, relation)", "written_paper(book, relation)",
               "written_holds(book, relation, claim, paper)", "writes(one, other)"]),
    (carrying, ["three_puzzle(book)"]),
    (questions, ["is_question(puzzle, value)", "answer_of(puzzle, start, question)",
                 "paper_of(puzzle, start, question)", "claim_holds(puzzle, start, question, claim, paper)"]),
    (histories, ["told(value)", "untold(text)", "write_history(desk)", "history_holds(text)", "relived(text)"]),
]


class InterfaceTest(unittest.TestCase):

    def test_classes_stand_in_their_files_with_their_methods(self):
        for module, name, arguments, methods in CLASSES:
            with self.subTest(name=name):
                made = getattr(module, name)
                self.assertEqual(made.__module__, module.__name__)
                self.assertEqual(list(signature(made).parameters), arguments)
                for method, parameters in methods.items():
                    self.assertIn(method, vars(made))
                    self.assertEqual(list(signature(vars(made)[method]).parameters), ["self"] + parameters)

    def test_functions_stand_in_their_files_with_their_arguments(self):
        for module, shown in FUNCTIONS:
            for line in shown:
                with self.subTest(line=line):
                    name = line.split("(")[0]
                    made = getattr(module, name)
                    self.assertEqual(made.__module__, module.__name__)
                    self.assertEqual(name + str(signature(made)), line)


class FormTest(unittest.TestCase):

    def test_the_package_holds_nothing_but_python_files(self):
        others = [path for path in PACKAGE.rglob("*")
                  if "__pycache__" not in path.parts and path.suffix != ".py"]
        self.assertEqual(others, [])
        self.assertIn(PACKAGE / "__init__.py", FILES)

    def test_lines_and_signs(self):
        for path in FILES:
            text = path.read_text(encoding="utf-8")
            lines = text.split("\n")
            with self.subTest(path=path.name):
                self.assertEqual({sign for sign in text if sign != "\n" and not " " <= sign <= "~"}, set())
                self.assertLessEqual(len(lines), 400)
                self.assertLessEqual(max(len(line) for line in lines), 120)

    def test_functions_are_small(self):
        for path in FILES:
            for node in ast.walk(ast.parse(path.read_text(encoding="utf-8"))):
                if isinstance(node, ast.FunctionDef):
                    with self.subTest(path=path.name, name=node.name):
                        self.assertLessEqual(node.end_lineno - node.lineno + 1, 40)

    def test_imports_name_only_what_may_be_imported(self):
        for path in FILES:
            for node in ast.walk(ast.parse(path.read_text(encoding="utf-8"))):
                with self.subTest(path=path.name):
                    self.assertNotIsInstance(node, ast.Import)
                    if isinstance(node, ast.ImportFrom):
                        self.assertEqual(node.level, 0)
                        self.assertIn(node.module.split(".")[0], IMPORTED)


if __name__ == "__main__":
    unittest.main()
