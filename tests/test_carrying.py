"""Points [24] and [25], with [1], [2] and [4]: puzzles carried into a book, and the puzzle of eight cells that is enough."""

import unittest

from eightcells.books import Book
from eightcells.carrying import Carried, three_puzzle
from eightcells.eight import deed_puzzle, side
from eightcells.errors import InvalidBook, InvalidFilling, InvalidPuzzle, Undefined
from eightcells.fixed import count
from eightcells.puzzles import Puzzle, fillings, is_filling, is_start
from eightcells.relations import Relation
from tests.cases import Case
from tests.samples import any_values, is_all_plain
from tests.worked_out import (
    all_fillings, all_rows, all_tables, drawing, drawn_book, drawn_book_kept, drawn_puzzle, fits, keeps, words_kept)

NO = Relation(1, [(0,)])
YES = Relation(1, [(1,)])
UNLIKE = Relation(2, [(0, 1), (1, 0)])
RISING = Relation(2, [(0, 0), (0, 1), (1, 1)])
ONE_OR_BOTH = Relation(2, [(0, 1), (1, 0), (1, 1)])
NOT_BOTH = ONE_OR_BOTH.opposite()
EVEN = Relation(3, [(0, 0, 0), (0, 1, 1), (1, 0, 1), (1, 1, 0)])
ONE_OF_THREE = Relation(3, [(0, 0, 1), (0, 1, 0), (1, 0, 0)])
NOT_ALL_LIKE = Relation(3, all_rows(3)[1:7])
HORN = Relation(3, [row for row in all_rows(3) if row != (1, 1, 0)])
FOUR = Relation(4, [(0, 0, 1, 1), (0, 1, 0, 1), (1, 0, 0, 0)])
STEPPED = Relation(4, [(0, 0, 0, 0), (0, 0, 1, 1), (0, 1, 0, 1), (1, 0, 0, 1), (1, 1, 1, 1)])

WRITE_ALL = [Book(relations) for relations in (
    [ONE_OF_THREE], [FOUR, UNLIKE], [NOT_ALL_LIKE, NO], [EVEN, UNLIKE, RISING],
    [Relation(4, all_rows(4)[:k] + all_rows(4)[k + 1:]) for k in (15, 0, 3, 5, 7, 9)])]
WRITE_TURNED = [Book(relations) for relations in (
    [NOT_ALL_LIKE], [Relation(4, all_rows(4)[1:15])], [UNLIKE, NOT_ALL_LIKE, UNLIKE])]
KEPT_BY_NO_OR_YES = [Book(relations) for relations in (
    [HORN.opposite(), NOT_BOTH], [EVEN, RISING], [HORN, ONE_OR_BOTH], [EVEN.opposite(), RISING], [STEPPED],
    [HORN, HORN.opposite()])]
ALL_BOOKS = WRITE_ALL + WRITE_TURNED + KEPT_BY_NO_OR_YES

# Puzzles with no cells, no ties, cells in no tie, cells twice in a tie, ties without views.
MIXED = Book([FOUR, ONE_OR_BOTH, YES, Relation(3, all_rows(3)), NOT_ALL_LIKE])
FIRSTS = [
    Puzzle(Book([NO]), 0, ()),
    Puzzle(Book([NO]), 1, ()),
    Puzzle(Book([NO]), 1, [(0, (0,))]),
    Puzzle(Book([NO, YES]), 2, [(0, (0,)), (1, (0,))]),
    Puzzle(Book([UNLIKE]), 2, [(0, (0, 0))]),
    Puzzle(Book([UNLIKE]), 2, [(0, (0, 0)), (0, (1, 1)), (0, (0, 0))]),
    Puzzle(Book([ONE_OF_THREE]), 3, [(0, (2, 0, 2))]),
    Puzzle(MIXED, 4, [(0, (3, 1, 0, 2)), (1, (1, 3)), (2, (2,))]),
    Puzzle(MIXED, 4, [(3, (0, 1, 2)), (4, (3, 1, 1)), (1, (2, 2))]),
    Puzzle(MIXED, 3, [(0, (0, 1, 1, 2)), (4, (0, 1, 2))]),
    Puzzle(MIXED, 4, [(0, (0, 1, 2, 3)), (0, (0, 1, 2, 3)), (0, (1, 2, 3, 0))]),
]


def part_fillings(puzzle, fixed, helpers, ties):
    """All ways to fill the helpers so that these ties are as they should be, given what is fixed; tried cell by cell."""
    helpers = [cell for cell in helpers if cell not in fixed]
    at = {cell: [] for cell in helpers}
    for t in ties:
        for cell in set(puzzle.ties[t][1]) & set(helpers):
            at[cell].append(t)
    if not all(may_stand(puzzle, t, fixed) for t in ties):
        return []
    found = [fixed]
    for cell in helpers:
        longer = [{**values, cell: value} for values in found for value in (0, 1)]
        found = [values for values in longer if all(may_stand(puzzle, t, values) for t in at[cell])]
    return found


def may_stand(puzzle, t, values):
    number, cells = puzzle.ties[t]
    for row in puzzle.book.relations[number].rows:
        told = dict(values)
        if all(told.setdefault(cell, value) == value for cell, value in zip(cells, row)):
            return True
    return False


def opposites(row):
    return tuple(1 - value for value in row)


def turned(row, cell):
    return row[:cell] + (1 - row[cell],) + row[cell + 1:]


class CarriedTest(Case):

    def assert_form(self, first, book):
        """The attributes, just as the point tells them."""
        carried = Carried(first, book)
        c, t = first.cell_count, len(first.ties)
        self.assertIs(type(carried.puzzle), Puzzle)
        self.assertEqual((carried.first, carried.puzzle.book), (first, book))
        for told in (carried.start, carried.cells, carried.parts, carried.puzzle.ties):
            self.assertIs(type(told), tuple)
            self.assertTrue(is_all_plain(told))
        self.assertTrue(is_start(carried.puzzle, carried.start))
        fixed = [cell for cell, _ in carried.start]
        self.assertEqual(sorted(value for _, value in carried.start), [] if words_kept(book) == () else [0, 1])
        six = side(book) == ("all", 6)
        self.assertEqual((carried.against is None, carried.times), (not six, 2 if six else 1))
        all_cells = range(carried.puzzle.cell_count)
        own = [carried.against] if six else []
        self.assertEqual(len(set(carried.cells) | set(fixed) | set(own)), c + len(fixed) + len(own))
        self.assertEqual(len(carried.cells), c)
        self.assertTrue(all(cell in all_cells for cell in list(carried.cells) + own))
        self.assertLessEqual(carried.puzzle.cell_count, 100 + 100 * c + 2000 * t)
        self.assertLessEqual(len(carried.puzzle.ties), 60 * carried.puzzle.cell_count)
        self.assert_parts(carried, fixed + own)
        return carried

    def assert_parts(self, carried, of_base):
        self.assertEqual(len(carried.parts), 1 + len(carried.first.ties))
        helpers = [cell for part in carried.parts for cell in part[0]]
        ties = [t for part in carried.parts for t in part[1]]
        others = set(range(carried.puzzle.cell_count)) - set(carried.cells)
        self.assertEqual(sorted(helpers), sorted(others))
        self.assertEqual(sorted(ties), list(range(len(carried.puzzle.ties))))
        base = carried.parts[0][0]
        self.assertLessEqual(set(of_base), set(base))
        for k, part in enumerate(carried.parts):
            self.assertEqual(len(part), 2)
            for numbers in part:
                self.assertEqual(list(numbers), sorted(set(numbers)))
            tied = carried.first.ties[k - 1][1] if k else range(carried.first.cell_count)
            allowed = {carried.cells[cell] for cell in tied} | set(base) | set(part[0])
            for t in part[1]:
                self.assertLessEqual(set(carried.puzzle.ties[t][1]), allowed)

    def assert_part_by_part(self, carried):
        """The helpers have just one filling where the tie's row is right, and none elsewhere."""
        first, puzzle = carried.first, carried.puzzle
        for values in all_rows(first.cell_count):
            fixed = {**dict(carried.start), **dict(zip(carried.cells, values))}
            if carried.against is not None:
                fixed[carried.against] = 0
            base = part_fillings(puzzle, fixed, *carried.parts[0])
            self.assertEqual(len(base), 1)
            for (number, cells), part in zip(first.ties, carried.parts[1:]):
                row = tuple(values[cell] for cell in cells)
                many = len(part_fillings(puzzle, base[0], *part))
                self.assertEqual(many, 1 if row in first.book.relations[number].rows else 0)

    def assert_on_and_back(self, carried):
        first, puzzle = carried.first, carried.puzzle
        rows = all_fillings(first)
        images = [carried.on(row) for row in rows]
        found = fillings(puzzle, carried.start)
        self.assertEqual(len(found), carried.times * len(rows))
        self.assertEqual(count(puzzle, carried.start), len(found))
        no_against = [g for g in found if carried.against is None or g[carried.against] == 0]
        self.assertEqual(sorted(images), no_against)
        for row, image in zip(rows, images):
            self.assertTrue(is_all_plain(image) and fits(puzzle, image, carried.start))
            self.assertEqual(carried.back(image), row)
            self.assertEqual(tuple(image[cell] for cell in carried.cells), row)
            if carried.against is not None:
                self.assertEqual(carried.back(opposites(image)), row)
                self.assertIn(opposites(image), found)
        for row in found:
            again = carried.on(carried.back(row))
            self.assertEqual(again, row if carried.against is None or row[carried.against] == 0 else opposites(row))

    def assert_turned_helpers(self, carried, row):
        image = carried.on(row)
        for cell in range(carried.puzzle.cell_count):
            if cell not in carried.cells:
                other = turned(image, cell)
                wrong = not is_filling(carried.puzzle, other) or any(other[at] != value for at, value in carried.start)
                self.assertTrue(wrong)
                self.assert_raises_with(InvalidFilling, "value", other, carried.back, other)

    def test_the_attributes_in_each_book(self):
        for book in ALL_BOOKS:
            for first in FIRSTS:
                self.assert_form(first, book)

    def test_part_by_part_in_each_book(self):
        for book in ALL_BOOKS:
            for first in FIRSTS:
                self.assert_part_by_part(Carried(first, book))

    def test_on_and_back_in_each_book(self):
        for book in ALL_BOOKS:
            for first in FIRSTS:
                carried = Carried(first, book)
                self.assert_on_and_back(carried)
                for row in all_fillings(first)[:2]:
                    self.assert_turned_helpers(carried, row)

    def test_each_relation_of_up_to_three_places(self):
        for book in (WRITE_ALL[0], WRITE_TURNED[0], KEPT_BY_NO_OR_YES[0]):
            for size in (1, 2, 3):
                rows = all_rows(size)
                for mask in range(1, 2 ** len(rows), 1 if size < 3 else 5):
                    relation = Relation(size, [row for k, row in enumerate(rows) if mask >> k & 1])
                    carried = Carried(Puzzle(Book([relation]), size, [(0, tuple(range(size)))]), book)
                    self.assert_part_by_part(carried)
                    self.assert_on_and_back(carried)

    def test_drawn_puzzles_and_books(self):
        draw = drawing(241)
        kinds = {}
        while sum(kinds.values()) < 60:
            word = draw.choice(("all no", "all yes", None, None))
            book = drawn_book_kept(draw, word, 2, (2, 3, 3, 4), most=draw.choice((3, 6, 9)))
            if draw.random() < 0.3:
                book = Book([Relation(relation.size, relation.rows + relation.opposite().rows)
                             for relation in book.relations])
            if words_kept(book, True) == ():
                cell_count = draw.randint(1, 4)
                first = drawn_puzzle(draw, drawn_book(draw, 2, least=2), cell_count, draw.randint(0, 3))
                carried = self.assert_form(first, book)
                self.assert_part_by_part(carried)
                self.assert_on_and_back(carried)
                kind = (carried.start == (), carried.times)
                kinds[kind] = kinds.get(kind, 0) + 1
        self.assertEqual(sorted(kinds), [(False, 1), (True, 1), (True, 2)])

    def test_eight_cells_and_six_ties(self):
        draw = drawing(242)
        for book in ALL_BOOKS:
            relations = [Relation(4, draw.sample(all_rows(4), draw.randint(7, 15))) for _ in range(6)]
            ties = [(k, tuple(draw.sample(range(8), 4))) for k in range(6)]
            carried = self.assert_form(Puzzle(Book(relations), 8, ties), book)
            found = fillings(carried.puzzle, carried.start)
            rows = all_fillings(carried.first)
            self.assertEqual(len(found), carried.times * len(rows))
            for row in rows[:5]:
                self.assertIn(carried.on(row), found)
                self.assertEqual(carried.back(carried.on(row)), row)

    def test_it_is_not_iterable(self):
        self.assertRaises(TypeError, iter, Carried(FIRSTS[0], WRITE_ALL[0]))

    def test_what_was_passed_stays(self):
        carried = Carried(book=WRITE_TURNED[0], puzzle=FIRSTS[7])
        self.assertEqual(carried.first, FIRSTS[7])
        one, other = Carried(FIRSTS[7], WRITE_TURNED[0]), Carried(FIRSTS[7], WRITE_TURNED[0])
        self.assertEqual((one.puzzle, one.cells, one.parts), (other.puzzle, other.cells, other.parts))
        self.assertEqual(one.on(filling=all_fillings(FIRSTS[7])[0]), other.on(all_fillings(FIRSTS[7])[0]))

    def test_what_is_no_filling(self):
        for book in (WRITE_ALL[0], WRITE_TURNED[0], KEPT_BY_NO_OR_YES[0]):
            carried = Carried(Puzzle(Book([UNLIKE]), 2, [(0, (0, 1))]), book)
            image = carried.on((0, 1))
            for value in [value for value in any_values() if value != (0, 1)] + [
                    (0, 0), (1, 1), (0,), (0, 1, 0), (0, True), [0, 1], (False, 1), image]:
                self.assert_raises_with(InvalidFilling, "value", value, carried.on, value)
            for value in any_values() + [(0, 1), list(image), image[:-1], image + (0,), image[:-1] + (bool(image[-1]),),
                                         tuple(bool(value) for value in image)]:
                self.assert_raises_with(InvalidFilling, "value", value, carried.back, value)

    def test_fillings_that_do_not_keep_the_start(self):
        for book in KEPT_BY_NO_OR_YES:
            carried = Carried(FIRSTS[7], book)
            value = 0 if keeps(book, (0, 0)) else 1
            row = (value,) * carried.puzzle.cell_count
            self.assertTrue(is_filling(carried.puzzle, row))
            self.assert_raises_with(InvalidFilling, "value", row, carried.back, row)

    def test_the_errors_in_their_order(self):
        kept = [Book([UNLIKE]), Book([RISING]), Book([EVEN]), Book([HORN, YES]), Book([HORN.opposite(), NO])]
        for value in any_values():
            if type(value) is not Puzzle:
                for book in [WRITE_ALL[0], None] + kept[:1]:
                    with self.assertRaises(InvalidPuzzle) as told:
                        Carried(value, book)
                    self.assertEqual((told.exception.part, told.exception.place), ("puzzle", 0))
            if type(value) is not Book:
                self.assert_raises_with(InvalidBook, "value", value, Carried, FIRSTS[0], value)
        for book in kept:
            for first in FIRSTS[:3]:
                self.assert_raises_with(Undefined, "what", "deed", Carried, first, book)


class ThreePuzzleTest(Case):

    def assert_three(self, book):
        puzzle, cells, relation = three_puzzle(book)
        self.assertIs(type(three_puzzle(book)), tuple)
        self.assertEqual((puzzle.book, puzzle.cell_count, cells), (book, 8, (4, 2, 1)))
        self.assertTrue(is_all_plain(puzzle.ties) and is_all_plain(cells))
        six = side(book)[1] == 6
        self.assertEqual(relation, NOT_ALL_LIKE if six else ONE_OF_THREE)
        deeds = deed_puzzle(book, 3)
        at = [deeds.ties.index(tie) for tie in puzzle.ties]
        self.assertEqual(at, sorted(set(at)))
        places = [tuple(row[place] for row in all_rows(3)) for place in range(3)]
        plain = sorted(places + [opposites(table) for table in places] * six)
        self.assertEqual([row for row in all_tables(3) if fits(puzzle, row)], plain)
        self.assertEqual(list(fillings(deeds)), plain)
        self.assertEqual({tuple(row[cell] for cell in cells) for row in plain}, set(relation.rows))
        for t in range(len(puzzle.ties)):
            self.assertTrue(any(fits(puzzle.without(t), row) for row in all_tables(3) if row not in plain))
        return six

    def test_each_book(self):
        self.assertEqual([self.assert_three(book) for book in WRITE_ALL], [False] * len(WRITE_ALL))
        self.assertEqual([self.assert_three(book) for book in WRITE_TURNED], [True] * len(WRITE_TURNED))

    def test_drawn_books(self):
        draw = drawing(251)
        seen = []
        while len(seen) < 25:
            book = drawn_book(draw, 3, (3, 4), most=draw.choice((3, 5, 8)))
            if draw.random() < 0.5:
                book = Book([Relation(relation.size, relation.rows + relation.opposite().rows)
                             for relation in book.relations])
            if words_kept(book) == ():
                seen.append(self.assert_three(book))
        self.assertGreater(min(seen.count(True), seen.count(False)), 3)

    def test_books_that_a_deed_keeps(self):
        for book in KEPT_BY_NO_OR_YES + [Book([UNLIKE]), Book([RISING]), Book([NO]), Book([YES]), Book([EVEN])]:
            self.assert_raises_with(Undefined, "what", "deed", three_puzzle, book)

    def test_arguments_by_name(self):
        self.assertEqual(three_puzzle(book=WRITE_ALL[0])[2], ONE_OF_THREE)


if __name__ == "__main__":
    unittest.main()
