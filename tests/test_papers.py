"""Point [15], with [1] and [2]: papers of each kind worked out by hand, and spoilt."""

import unittest

from eightcells.books import Book
from eightcells.errors import CellError, InvalidStart
from eightcells.papers import none_holds
from eightcells.puzzles import Puzzle
from eightcells.relations import Relation
from tests.judge import shows
from tests.samples import any_values, nested, spoilt
from tests.worked_out import all_fillings

NO = Relation(1, [(0,)])
YES = Relation(1, [(1,)])
UNLIKE = Relation(2, [(0, 1), (1, 0)])
LIKE = Relation(2, [(0, 0), (1, 1)])
RISING = Relation(2, [(0, 0), (0, 1), (1, 1)])
ONE_OF_THREE = Relation(3, [(0, 0, 1), (0, 1, 0), (1, 0, 0)])
EVEN = Relation(3, [(0, 0, 0), (0, 1, 1), (1, 0, 1), (1, 1, 0)])
BOOK = Book([NO, YES, UNLIKE, RISING, ONE_OF_THREE, EVEN])

# Yes at 0 leads by rising ties to yes at 3, which is no; cell 4 is free.
STEPS = Puzzle(BOOK, 5, [(1, (0,)), (3, (0, 1)), (3, (1, 2)), (3, (2, 3)), (0, (3,))])
STEPS_CHAIN = ("chain", ((0, 0, 1), (1, 1, 1), (2, 2, 1), (3, 3, 1)), 4)
# Three cells each unlike the next.
ODD_RING = Puzzle(BOOK, 4, [(2, (0, 1)), (2, (1, 2)), (2, (2, 0))])
THERE = ((0, 1, 0), (1, 2, 1), (2, 0, 0))
BACK = ((0, 1, 1), (1, 2, 0), (2, 0, 1))
RING = ("ring", 0, THERE, BACK)
SUM = ("sum", ((0, (0, 1), 1), (1, (1, 2), 1), (2, (0, 2), 1)))
# One of three thrice, on four cells, with a cell that is like the others of each.
THREES = Puzzle(BOOK, 4, [(4, (0, 1, 2)), (4, (0, 1, 3)), (4, (0, 2, 3)), (4, (1, 2, 3))])
SPLIT = ("split", 0, ("split", 1, ("chain", ((0, 2, 1), (1, 3, 1)), 2), ("chain", ((0, 2, 0), (1, 3, 0)), 2)),
         ("chain", ((0, 1, 0), (0, 2, 0), (1, 3, 0)), 3))
# Cell 0 decides: with no the ring of 1, 2, 3 cannot be, with yes the sum of 4, 5, 6.
DECIDED = Puzzle(BOOK, 8, [(2, (1, 2)), (2, (2, 3)), (4, (0, 1, 3)), (2, (4, 5)), (5, (4, 5, 6)), (4, (0, 6, 7))])


class JudgeTest(unittest.TestCase):

    def assert_holds(self, puzzle, start, paper, whether=True):
        found = none_holds(puzzle, start, paper)
        self.assertIs(type(found), bool)
        self.assertIs(found, whether)
        self.assertIs(shows(puzzle, dict(start), paper), whether)
        if whether:
            self.assertEqual(all_fillings(puzzle, start), ())

    def assert_fails(self, puzzle, start, *papers):
        for paper in papers:
            self.assert_holds(puzzle, start, paper, False)

    def assert_judged(self, puzzle, start, *papers):
        for paper in papers:
            self.assert_holds(puzzle, start, paper, shows(puzzle, dict(start), paper))

    def assert_spoilt_as_told(self, puzzle, start, paper):
        self.assert_holds(puzzle, start, paper)
        self.assert_judged(puzzle, start, *spoilt(paper))


class ChainTest(JudgeTest):

    def test_chains(self):
        self.assert_holds(STEPS, (), STEPS_CHAIN)
        self.assert_holds(STEPS, (), ("chain", ((0, 0, 1), (4, 3, 0), (3, 2, 0), (1, 1, 1)), 2))
        self.assert_holds(STEPS, ((4, 1),), STEPS_CHAIN)
        self.assert_holds(STEPS, ((1, 0),), ("chain", ((0, 0, 1),), 1))
        self.assert_holds(STEPS, ((1, 0),), ("chain", ((1, 0, 0),), 0))
        self.assert_holds(STEPS, ((0, 0),), ("chain", (), 0))
        self.assert_holds(STEPS, ((0, 1), (1, 0)), ("chain", (), 1))

    def test_a_step_more_than_needed(self):
        self.assert_holds(STEPS, ((1, 0),), ("chain", ((4, 3, 0), (0, 0, 1)), 1))

    def test_a_cell_that_is_fixed_already(self):
        self.assert_fails(STEPS, (), ("chain", ((0, 0, 1), (0, 0, 1)) + STEPS_CHAIN[1][1:], 4),
                          ("chain", STEPS_CHAIN[1] + ((3, 3, 1),), 4))
        self.assert_fails(STEPS, ((0, 1),), STEPS_CHAIN)
        self.assert_holds(STEPS, ((0, 1),), ("chain", STEPS_CHAIN[1][1:], 4))

    def test_a_step_whose_tie_has_no_view(self):
        puzzle = Puzzle(BOOK, 3, [(2, (0, 0)), (2, (1, 2))])
        self.assert_holds(puzzle, (), ("chain", (), 0))
        self.assert_fails(puzzle, (), ("chain", ((0, 0, 0),), 0), ("chain", ((0, 0, 1),), 0))
        self.assert_fails(puzzle, ((1, 0), (2, 0)), ("chain", ((0, 0, 1),), 1))
        self.assert_holds(puzzle, ((1, 0), (2, 0)), ("chain", (), 1))

    def test_a_last_tie_that_has_views(self):
        self.assert_fails(STEPS, (), ("chain", STEPS_CHAIN[1], 3), ("chain", STEPS_CHAIN[1], 0),
                          ("chain", STEPS_CHAIN[1][:3], 4), ("chain", (), 4), ("chain", (), 0))

    def test_what_the_tie_does_not_force(self):
        self.assert_fails(STEPS, (), ("chain", ((1, 1, 1), (0, 0, 1), (2, 2, 1), (3, 3, 1)), 4),
                          ("chain", ((0, 0, 0), (1, 1, 1)), 4), ("chain", ((0, 4, 1),) + STEPS_CHAIN[1], 4))

    def test_a_cell_twice_in_a_tie(self):
        puzzle = Puzzle(BOOK, 3, [(4, (0, 0, 1)), (3, (1, 0))])
        self.assert_holds(puzzle, (), ("chain", ((0, 0, 0), (0, 1, 1)), 1))
        self.assert_holds(puzzle, (), ("chain", ((0, 1, 1), (0, 0, 0)), 1))
        self.assert_spoilt_as_told(puzzle, (), ("chain", ((0, 0, 0), (1, 1, 0)), 0))

    def test_spoilt(self):
        self.assert_spoilt_as_told(STEPS, (), STEPS_CHAIN)
        self.assert_spoilt_as_told(STEPS, ((0, 1),), ("chain", ((1, 1, 1), (2, 2, 1), (3, 3, 1)), 4))
        self.assert_spoilt_as_told(STEPS, ((0, 0),), ("chain", (), 0))
        self.assert_spoilt_as_told(THREES, ((0, 1),), SPLIT[3])

    def test_numbers_that_are_none(self):
        for wrong in (5, -1, -5, True, False, None, "0", (0,), [0], 10 ** 5000, 2 ** 64):
            steps = STEPS_CHAIN[1]
            self.assert_fails(STEPS, (), ("chain", steps, wrong), ("chain", ((wrong, 0, 1),) + steps[1:], 4),
                              ("chain", ((0, wrong, 1),) + steps[1:], 4), ("chain", ((0, 0, wrong),) + steps[1:], 4),
                              ("chain", wrong, 4), ("chain", (wrong,), 4), ("chain", steps + (wrong,), 4))
        self.assert_fails(STEPS, ((0, 0),), ("chain", (), False), ("chain", [], 0), ("chain", (), 0, 0), ("chain", ()),
                          ["chain", (), 0])
        self.assert_fails(STEPS, (), ("chain", ((0, False, 1),) + STEPS_CHAIN[1][1:], 4),
                          ("chain", ((0, 0, True),) + STEPS_CHAIN[1][1:], 4),
                          ("chain", ((False, 0, 1),) + STEPS_CHAIN[1][1:], 4))


class RingTest(JudgeTest):

    def test_rings(self):
        self.assert_holds(ODD_RING, (), RING)
        self.assert_holds(ODD_RING, ((3, 0),), RING)
        self.assert_holds(ODD_RING, (),
                          ("ring", 1, ((1, 2, 0), (2, 0, 1), (0, 1, 0)), ((0, 0, 1), (2, 2, 0), (1, 1, 1))))

    def test_a_longer_way_and_a_step_on_the_spot(self):
        self.assert_holds(ODD_RING, (), ("ring", 0, THERE + BACK + THERE, BACK))
        self.assert_holds(ODD_RING, (), ("ring", 0, ((0, 0, 1),) + THERE, BACK + ((2, 0, 1), (0, 0, 1))))

    def test_a_ring_that_does_not_close(self):
        for there in (THERE[:2], THERE + ((0, 1, 1),), THERE[1:], THERE + BACK, ((0, 1, 0), (0, 0, 1)), BACK):
            self.assert_fails(ODD_RING, (), ("ring", 0, there, BACK), ("ring", 0, BACK, there))
        self.assert_fails(ODD_RING, (), ("ring", 0, BACK, THERE), ("ring", 0, THERE, THERE), ("ring", 0, BACK, BACK),
                          ("ring", 0, THERE, BACK[:1]))

    def test_another_cell(self):
        for cell in (1, 2, 3, 4, -1, True, False, None, "0", (0,), [0]):
            self.assert_fails(ODD_RING, (), ("ring", cell, THERE, BACK))

    def test_a_fixed_cell(self):
        self.assert_fails(ODD_RING, ((0, 0),), RING)
        self.assert_fails(ODD_RING, ((0, 1),), RING)

    def test_a_step_through_a_fixed_cell(self):
        self.assert_holds(ODD_RING, ((1, 0),), RING)
        self.assert_holds(ODD_RING, ((1, 0),), ("ring", 0, ((0, 1, 0), (1, 2, 1), (2, 0, 0)), ((0, 0, 1),)))

    def test_of_no_steps(self):
        self.assert_fails(ODD_RING, (), ("ring", 0, (), BACK), ("ring", 0, THERE, ()), ("ring", 0, (), ()))

    def test_a_tie_without_views(self):
        puzzle = Puzzle(BOOK, 3, [(2, (0, 0)), (2, (1, 2))])
        self.assert_holds(puzzle, (), ("ring", 0, ((0, 0, 0),), ((0, 0, 1),)))
        self.assert_fails(puzzle, (), ("ring", 1, ((0, 1, 0),), ((0, 1, 1),)), ("ring", 0, ((0, 1, 0),), ((0, 0, 1),)))
        self.assert_holds(puzzle, ((2, 0),), ("ring", 0, ((0, 0, 0),), ((0, 0, 1),)))
        fixed = Puzzle(BOOK, 3, [(4, (0, 1, 2))])
        self.assert_holds(fixed, ((1, 1), (2, 1)), ("ring", 0, ((0, 0, 0),), ((0, 1, 0), (0, 0, 1))))

    def test_one_tie_alone(self):
        puzzle = Puzzle(BOOK, 2, [(2, (0, 1)), (5, (0, 0, 1)), (0, (0,)), (1, (0,))])
        self.assert_holds(puzzle, (), ("ring", 0, ((2, 0, 0),), ((3, 0, 1),)))
        self.assert_fails(puzzle, (), ("ring", 0, ((3, 0, 0),), ((3, 0, 1),)), ("ring", 0, ((2, 0, 0),), ((2, 0, 1),)))

    def test_a_step_from_a_cell_that_is_not_in_the_tie(self):
        puzzle = Puzzle(BOOK, 3, [(2, (0, 1)), (0, (2,)), (1, (2,))])
        self.assert_fails(puzzle, (), ("ring", 0, ((1, 2, 0), (0, 0, 0)), ((0, 1, 1), (0, 0, 0), (0, 1, 1), (0, 0, 1))),
                          ("ring", 2, ((1, 2, 0),), ((0, 1, 0), (2, 2, 1))), ("ring", 0, ((1, 0, 0),), ((2, 0, 1),)))
        self.assert_holds(puzzle, (), ("ring", 2, ((1, 2, 0),), ((2, 2, 1),)))

    def test_spoilt(self):
        self.assert_spoilt_as_told(ODD_RING, (), RING)
        self.assert_spoilt_as_told(ODD_RING, ((1, 1),), RING)
        self.assert_spoilt_as_told(Puzzle(BOOK, 1, [(0, (0,)), (1, (0,))]), (), ("ring", 0, ((0, 0, 0),), ((1, 0, 1),)))


class SumTest(JudgeTest):

    def test_sums(self):
        self.assert_holds(ODD_RING, (), SUM)
        self.assert_holds(ODD_RING, ((3, 1),), SUM)
        self.assert_holds(ODD_RING, ((0, 1), (1, 0)), SUM)
        self.assert_holds(ODD_RING, ((0, 1), (2, 0)), ("sum", ((0, (1,), 0), (1, (1,), 1))))
        self.assert_holds(STEPS, ((0, 1), (1, 0)), ("sum", ((1, (), 1),)))
        puzzle = Puzzle(BOOK, 6, [(5, (0, 1, 2)), (5, (2, 3, 4)), (5, (0, 1, 5)), (2, (3, 4)), (0, (5,))])
        self.assert_holds(puzzle, (), ("sum", ((0, (0, 1, 2), 0), (1, (2, 3, 4), 0), (2, (0, 1, 5), 0), (3, (3, 4), 1),
                                               (4, (5,), 0))))

    def test_parts_in_any_order_and_more_than_needed(self):
        self.assert_holds(ODD_RING, (), ("sum", SUM[1][::-1]))
        self.assert_holds(ODD_RING, (), ("sum", SUM[1] * 3))
        self.assert_holds(ODD_RING, (), ("sum", SUM[1] + ((0, (), 0),)))
        self.assert_fails(ODD_RING, (), ("sum", SUM[1] * 2))

    def test_without_parts(self):
        self.assert_fails(ODD_RING, (), ("sum", ()), ("sum", ((),)), ("sum", ((0, (), 0),)), ("sum", ((0, (), 1),)))

    def test_cells_that_do_not_rise(self):
        parts = SUM[1]
        for cells in ((1, 0), (0, 0), (1, 1), (0, 1, 1), (0, 0, 1), (0, 1, 0), [0, 1], (0,), (1,), (0, 2), (0, 1, 2),
                      (),
                      (0, True), (False, 1), (-1, 1), (0, None), ((0, 1),), "01", None, 0):
            self.assert_fails(ODD_RING, (), ("sum", ((0, cells, 1),) + parts[1:]))

    def test_an_even_sum_of_bits(self):
        puzzle = Puzzle(BOOK, 4, [(2, (0, 1)), (2, (1, 2)), (5, (0, 2, 3)), (0, (3,))])
        self.assert_fails(puzzle, (), ("sum", ((0, (0, 1), 1), (1, (1, 2), 1), (2, (0, 2, 3), 0), (3, (3,), 0))))

    def test_a_cell_that_stands_in_an_odd_number_of_parts(self):
        self.assert_fails(ODD_RING, (), ("sum", SUM[1][:1]), ("sum", SUM[1][1:]), ("sum", SUM[1] + SUM[1][:2]))
        self.assert_fails(STEPS, (), ("sum", ((0, (0,), 1),)), ("sum", ((0, (0,), 1), (4, (3,), 0))))

    def test_a_bit_that_not_all_views_have(self):
        self.assert_fails(STEPS, (), ("sum", ((0, (0,), 1), (1, (0,), 0))), ("sum", ((1, (0, 1), 1), (1, (0, 1), 0))))
        self.assert_fails(ODD_RING, (), ("sum", ((0, (0, 1), 0), (1, (1, 2), 1), (2, (0, 2), 0))))

    def test_a_tie_without_views(self):
        puzzle = Puzzle(BOOK, 3, [(2, (0, 0)), (2, (1, 2))])
        for paper in (("sum", ((0, (), 1),)), ("sum", ((0, (0,), 0), (0, (0,), 1))), ("sum", ((0, (), 0), (0, (), 1)))):
            self.assert_holds(puzzle, (), paper)
        self.assert_fails(puzzle, (), ("sum", ((0, (1,), 0), (0, (1,), 1))), ("sum", ((1, (), 1),)))

    def test_a_cell_twice_in_a_tie_counts_once(self):
        puzzle = Puzzle(BOOK, 2, [(5, (0, 0, 1)), (1, (1,)), (4, (1, 0, 0))])
        self.assert_holds(puzzle, (), ("sum", ((0, (1,), 0), (1, (1,), 1))))
        self.assert_holds(puzzle, ((0, 1),), ("sum", ((0, (0, 1), 1), (2, (0, 1), 0))))
        self.assert_fails(puzzle, (), ("sum", ((0, (0, 0, 1), 0), (1, (1,), 1))),
                          ("sum", ((0, (0, 1), 0), (1, (1,), 1))))

    def test_spoilt(self):
        self.assert_spoilt_as_told(ODD_RING, (), SUM)
        self.assert_spoilt_as_told(ODD_RING, ((0, 1), (2, 0)), ("sum", ((0, (1,), 0), (1, (1,), 1))))
        self.assert_spoilt_as_told(STEPS, ((0, 1), (1, 0)), ("sum", ((1, (), 1),)))


class SplitTest(JudgeTest):

    def test_splits(self):
        self.assert_holds(THREES, (), SPLIT)
        self.assert_holds(THREES, ((0, 0),), SPLIT[2])
        self.assert_holds(THREES, ((0, 1),), SPLIT[3])
        self.assert_holds(THREES, ((0, 0), (1, 0)), SPLIT[2][2])

    def test_a_split_that_holds_the_other_kinds(self):
        ring = ("ring", 1, ((0, 2, 0), (1, 3, 1), (2, 1, 0)), ((0, 2, 1), (1, 3, 0), (2, 1, 1)))
        odd = ("sum", ((3, (4, 5), 1), (4, (4, 5, 6), 0), (5, (6,), 0)))
        self.assert_holds(DECIDED, ((0, 0),), ring)
        self.assert_holds(DECIDED, ((0, 1),), odd)
        self.assert_holds(DECIDED, (), ("split", 0, ring, odd))
        self.assert_fails(DECIDED, (), ("split", 0, odd, ring), ("split", 0, ring, ring), ring, odd)
        self.assert_spoilt_as_told(DECIDED, (), ("split", 0, ring, odd))

    def test_a_split_that_was_not_needed(self):
        chain = ("chain", ((1, 1, 1), (2, 2, 1), (3, 3, 1)), 4)
        self.assert_holds(ODD_RING, (), ("split", 3, SUM, RING))
        self.assert_holds(STEPS, (), ("split", 4, STEPS_CHAIN, ("split", 0, ("chain", (), 0), chain)))

    def test_a_cell_that_is_fixed_or_none(self):
        chain = ("chain", (), 0)
        puzzle = Puzzle(BOOK, 2, [(2, (0, 0))])
        for cell in (0, 1):
            self.assert_holds(puzzle, (), ("split", cell, chain, chain))
            self.assert_fails(puzzle, ((cell, 0),), ("split", cell, chain, chain))
            self.assert_fails(puzzle, (), ("split", cell, chain, ("split", cell, chain, chain)),
                              ("split", cell, ("split", cell, chain, chain), chain))
        for cell in (2, -1, -2, True, False, None, "0", (0,), [0], (), 10 ** 5000):
            self.assert_fails(puzzle, (), ("split", cell, chain, chain))

    def test_a_part_for_the_other_value(self):
        self.assert_fails(THREES, (), ("split", 0, SPLIT[3], SPLIT[2]), ("split", 0, SPLIT[2], SPLIT[2]),
                          ("split", 0, SPLIT[3], SPLIT[3]), ("split", 1) + SPLIT[2:], SPLIT[2], SPLIT[3])

    def test_spoilt(self):
        self.assert_spoilt_as_told(THREES, (), SPLIT)

    def test_all_of_four_cells_split(self):
        puzzle = Puzzle(BOOK, 5, [(4, (0, 1, 2)), (4, (1, 2, 3)), (2, (0, 3))])
        full = self.split_all(puzzle, 0, {})
        self.assert_holds(puzzle, (), full)
        self.assert_fails(puzzle, (), full[:2] + (full[3], full[2]))

    def split_all(self, puzzle, cell, fixed):
        if cell == 4:
            empty = [t for t in range(3) if shows(puzzle, fixed, ("chain", (), t))]
            return ("chain", (), empty[0])
        return ("split", cell, self.split_all(puzzle, cell + 1, {**fixed, cell: 0}),
                self.split_all(puzzle, cell + 1, {**fixed, cell: 1}))


class AnyPaperTest(JudgeTest):

    def test_any_value_at_all(self):
        empty = Puzzle(BOOK, 2, [(2, (0, 0))])
        papers = any_values() + ["chain", ("chain",), ("ring",), ("sum",), ("split",), ("chain", ()), ("sum", (), ()),
                                 ("ring", 0, ()), ("split", 0, ("chain", (), 0)), ("Chain", (), 0), ("chain ", (), 0),
                                 (("chain",), (), 0), (["chain"], (), 0), (0, (), 0), (None, (), 0), (BOOK, (), 0),
                                 ["chain", (), 0], ("none", (), 0), {"chain": 0}, (("chain", (), 0),)]
        good = ("chain", (), 0)
        for paper in papers:
            self.assert_fails(empty, (), paper, ("split", 0, paper, good), ("split", 0, good, paper), ("sum", paper),
                              ("ring", 0, paper, paper), ("chain", (paper,), 0), ("sum", (paper,)))
            self.assert_judged(empty, (), ("chain", paper, 0), ("chain", (), paper), ("split", paper, good, good),
                               ("ring", paper, ((0, 0, 0),), ((0, 0, 1),)), ("sum", ((0, paper, 1),)))

    def test_nested_thirty_deep(self):
        for kind in (list, tuple):
            for inner in (0, "chain", ("chain", (), 0)):
                self.assert_fails(STEPS, ((0, 0),), nested(30, kind, inner))

    def test_no_cells_and_no_ties(self):
        for puzzle in (Puzzle(BOOK, 0, ()), Puzzle(BOOK, 2, ())):
            for paper in (STEPS_CHAIN, RING, SUM, SPLIT, ("chain", (), 0), ("sum", ()), ("ring", 0, (), ())):
                self.assert_fails(puzzle, (), paper)

    def test_papers_for_another_start(self):
        self.assert_holds(STEPS, ((1, 0),), ("chain", ((0, 0, 1),), 1))
        for start in ((), ((1, 1),), ((0, 1),), ((0, 1), (1, 1)), ((0, 1), (1, 0)), ((2, 0),)):
            self.assert_fails(STEPS, start, ("chain", ((0, 0, 1),), 1))
        self.assert_fails(ODD_RING, ((0, 1), (2, 1)), ("sum", ((0, (1,), 0), (1, (1,), 1))))

    def test_arguments_by_name(self):
        self.assertIs(none_holds(paper=RING, start=(), puzzle=ODD_RING), True)

    def test_what_is_no_start(self):
        wrong = [value for value in any_values() if value not in ((), ((0, 1),))] + [
            [], ((5, 0),), ((-1, 0),), ((0, 2),), ((0, True),), ((True, 1),), ((0, 1), (0, 1)), ((1, 0), (0, 0)),
            ([0, 1],)]
        for start in wrong:
            for paper in (STEPS_CHAIN, None, (), ("chain", (), 0)):
                with self.assertRaises(CellError) as told:
                    none_holds(STEPS, start, paper)
                self.assertIs(type(told.exception), InvalidStart)
                self.assertIs(told.exception.value, start)


if __name__ == "__main__":
    unittest.main()
