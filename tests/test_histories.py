"""Point [29], with [1], [2] and [4]: what was done on a desk, written down and lived through again."""

import unittest

from eightcells.books import Book
from eightcells.desk import Desk
from eightcells.errors import InvalidMove, InvalidQuestion, InvalidText, NothingToUndo
from eightcells.histories import history_holds, relived, write_history
from eightcells.relations import Relation
from tests.cases import Case
from tests.desk_model import drawn_move, led, questions_for
from tests.history_judge import Reading, by_hand, first_wrong_place
from tests.test_desk import state_of
from tests.worked_out import all_rows, drawing

UNLIKE = Relation(2, [(0, 1), (1, 0)])
ONE_OF_THREE = Relation(3, [(0, 0, 1), (0, 1, 0), (1, 0, 0)])
BOOK = Book([UNLIKE, ONE_OF_THREE])

# Each line with what is done; two papers are free, and each of these holds.
BY_HAND = """relation 2 01,10
relation 3 001,010,100
cells 3
watch ("count",)
claim ("count",8,)
paper ()
move ("tie",0,(0,1,),)
claim ("count",4,)
paper ()
watch ("fill",)
claim ("filled",)
paper (1,0,1,)
move ("fix",2,0,)
claim ("count",2,)
paper ()
claim ("filled",)
paper (0,1,0,)
leave ("count",)
watch ("fixed",)
claim ("fixed",((2,0,),),)
paper ((),((0,1,0,),(1,0,0,),),)
undo
claim ("filled",)
paper (1,0,0,)
claim ("fixed",(),)
paper ((),((0,1,0,),(1,0,1,),),)
redo
claim ("filled",)
paper (1,0,0,)
claim ("fixed",((2,0,),),)
paper ((),((1,0,0,),(0,1,0,),(1,0,0,),),)
move ("take",0,)
claim ("filled",)
paper (0,0,0,)
claim ("fixed",((2,0,),),)
paper ((),((0,0,0,),(1,1,0,),),)
move ("tie",0,(2,2,),)
claim ("none",)
paper ("chain",(),0,)
claim ("none",)
paper ("split",0,("chain",(),0,),("chain",(),0,),)
watch ("first",(1,1,1,),)
claim ("none",)
paper ("chain",(),0,)
move ("free",2,)
claim ("none",)
paper ("sum",((0,(),1,),),)
claim ("none",)
paper ("ring",2,((0,2,0,),),((0,2,1,),),)
claim ("none",)
paper ("split",2,("chain",(),0,),("chain",(),0,),)"""


def kept_by_hand(desk, question):
    return ["claim " + by_hand(desk.claim(question)), "paper " + by_hand(desk.paper_for(question))]


class WriteTest(Case):

    def test_a_new_desk(self):
        self.assertEqual(write_history(Desk(BOOK, 3)), "relation 2 01,10\nrelation 3 001,010,100\ncells 3")
        self.assertEqual(write_history(desk=Desk(Book([UNLIKE]), 0)), "relation 2 01,10\ncells 0")
        self.assertEqual(write_history(Desk(Book([UNLIKE]), 12)), "relation 2 01,10\ncells 12")

    def test_each_line_as_told(self):
        desk = Desk(BOOK, 3)
        lines = ["relation 2 01,10", "relation 3 001,010,100", "cells 3"]
        desk.move(("fix", 0, 1))
        lines.append('move ("fix",0,1,)')
        desk.watch(("first", (0, 0, 1)))
        lines.append('watch ("first",(0,0,1,),)')
        lines.append('claim ("first",(1,0,1,),)')
        lines.append("paper " + by_hand(desk.paper_for(("first", (0, 0, 1)))))
        desk.move(("tie", 1, (0, 1, 2)))
        lines.append('move ("tie",1,(0,1,2,),)')
        lines.extend(kept_by_hand(desk, ("first", (0, 0, 1))))
        desk.watch(("fixed",))
        lines.extend(['watch ("fixed",)'] + kept_by_hand(desk, ("fixed",)))
        desk.undo()
        lines.extend(["undo"] + kept_by_hand(desk, ("first", (0, 0, 1))) + kept_by_hand(desk, ("fixed",)))
        desk.leave(("first", (0, 0, 1)))
        lines.append('leave ("first",(0,0,1,),)')
        desk.redo()
        lines.extend(["redo"] + kept_by_hand(desk, ("fixed",)))
        desk.move(("take", 0))
        lines.extend(['move ("take",0,)'] + kept_by_hand(desk, ("fixed",)))
        desk.move(("free", 0))
        lines.extend(['move ("free",0,)'] + kept_by_hand(desk, ("fixed",)))
        self.assertEqual(write_history(desk), "\n".join(lines))
        self.assertIsNone(first_wrong_place("\n".join(lines)))

    def test_what_raised_an_error_and_what_was_watched_is_left_out(self):
        desk = Desk(BOOK, 2)
        text = write_history(desk)
        for call, value in ((desk.move, ("take", 0)), (desk.move, None), (desk.watch, ("first", (0,))),
                            (desk.leave, ("fill",)), (desk.claim, ("fill",)), (desk.paper_for, ("fill",))):
            with self.assertRaises((InvalidMove, InvalidQuestion)):
                call(value)
        for call in (desk.undo, desk.redo):
            self.assertRaises(NothingToUndo, call)
        self.assertEqual(write_history(desk), text)
        desk.watch(("count",))
        text += '\nwatch ("count",)\nclaim ("count",4,)\npaper ()'
        self.assertEqual(write_history(desk), text)
        desk.watch(("count",))
        desk.claim(("count",))
        desk.paper_for(("count",))
        desk.done(), desk.watched(), desk.puzzle(), desk.start()
        self.assertEqual(write_history(desk), text)
        self.assertEqual(write_history(desk), text)


class HoldsTest(Case):

    def assert_holds(self, text):
        """Answers the desk that was led through it."""
        self.assertIs(history_holds(text), True)
        desk = relived(text)
        self.assertIs(type(desk), Desk)
        self.assertEqual(write_history(desk), text)
        reading = Reading(text)
        self.assertIsNone(reading.wrong)
        self.assertEqual((desk.puzzle(), desk.start()), reading.now)
        self.assertEqual(desk.done(), tuple(move for move, _ in reading.done))
        self.assertEqual(desk.watched(), tuple(reading.papers))
        for question, answer in reading.papers.items():
            self.assertEqual((desk.claim(question), desk.paper_for(question)), answer)
        return desk

    def assert_wrong(self, text, at):
        self.assertIs(history_holds(text), False)
        with self.assertRaises(InvalidText) as raised:
            relived(text)
        self.assertIs(type(raised.exception), InvalidText)
        self.assertEqual((raised.exception.text, raised.exception.at), (text, at))
        self.assertEqual(first_wrong_place(text), at)

    def assert_line_wrong(self, lines, k):
        """Line k is the first that is wrong."""
        self.assert_wrong("\n".join(lines), sum(len(line) + 1 for line in lines[:k]))

    def test_a_text_written_out_by_hand(self):
        desk = self.assert_holds(BY_HAND)
        self.assertEqual(desk.start(), ())
        self.assertEqual(desk.puzzle().ties, ((0, (2, 2)),))
        self.assertEqual(desk.done(), (("tie", 0, (0, 1)), ("fix", 2, 0), ("take", 0), ("tie", 0, (2, 2)), ("free", 2)))
        self.assertEqual(desk.paper_for(("fill",)), ("sum", ((0, (), 1),)))
        self.assertEqual(desk.watched(), (("fill",), ("fixed",), ("first", (1, 1, 1))))

    def test_each_beginning_of_it(self):
        lines = BY_HAND.split("\n")
        for many in range(len(lines)):
            text = "\n".join(lines[:many])
            at = first_wrong_place(text)
            if at is None:
                self.assert_holds(text)
            else:
                # Lines are lacking; the empty text has one line, which is wrong.
                self.assert_wrong(text, len(text))
        self.assertEqual(first_wrong_place("\n".join(lines[:3])), None)
        self.assertEqual(first_wrong_place("\n".join(lines[:4])), len("\n".join(lines[:4])))

    def test_other_papers_that_hold_are_kept(self):
        lines = BY_HAND.split("\n")
        k = lines.index("paper (1,0,1,)")
        for row in ("(0,1,0,)", "(0,1,1,)", "(1,0,0,)"):
            self.assert_holds("\n".join(lines[:k] + ["paper " + row] + lines[k + 1:]))
        # The paper of before would hold behind the move, another one stands there and is kept.
        text = ('relation 2 01,10\ncells 2\nwatch ("fill",)\nclaim ("filled",)\npaper (0,1,)\n'
                'move ("tie",0,(0,1,),)\nclaim ("filled",)\npaper (1,0,)')
        desk = self.assert_holds(text)
        self.assertEqual(desk.paper_for(("fill",)), (1, 0))
        self.assertEqual(desk.undo(), ((("fill",), "kept", ("filled",)),))
        self.assertEqual(desk.paper_for(("fill",)), (1, 0))
        self.assertEqual(desk.move(("fix", 0, 0)), ((("fill",), "renewed", ("filled",)),))
        self.assertEqual(write_history(desk).split("\n")[:10], text.split("\n") + ["undo", 'claim ("filled",)'])

    def test_a_line_that_is_wrong(self):
        lines = BY_HAND.split("\n")
        for old, new in (
                ("cells 3", "cells 13"), ("cells 3", "cells 03"), ("cells 3", "cells 1000000"), ("cells 3", "cells"),
                ("relation 3 001,010,100", "relation 3 010,001,100"), ("relation 3 001,010,100", "relation 5 0"),
                ('watch ("count",)', 'watch ("counts",)'), ('watch ("count",)', 'watch ("count",0,)'),
                ('watch ("count",)', 'watch ("first",(0,0,),)'), ('watch ("count",)', 'Watch ("count",)'),
                ('watch ("count",)', 'watch  ("count",)'), ('watch ("count",)', 'watch ("count",) '),
                ('watch ("count",)', 'watch("count",)'), ('watch ("count",)', 'tie 0 0,1'),
                ('watch ("fill",)', 'watch ("count",)'),
                ('claim ("count",8,)', 'claim ("count",7,)'), ('claim ("count",8,)', 'claim ("count",08,)'),
                ('claim ("count",8,)', 'claim ("filled",)'), ('claim ("count",8,)', 'paper ("count",8,)'),
                ('claim ("count",8,)', 'claim ("none",)'), ('claim ("count",8,)', ''), ("paper ()", "paper (0,)"),
                ("paper ()", "paper"), ("paper ()", "claim ()"), ("paper ()", "paper () "), ("paper ()", "paper 0"),
                ('move ("tie",0,(0,1,),)', 'move ("tie",2,(0,1,),)'), ('move ("tie",0,(0,1,),)', 'move ("take",0,)'),
                ('move ("tie",0,(0,1,),)', 'move ("tie",0,(0,3,),)'), ('move ("tie",0,(0,1,),)', 'move ("free",0,)'),
                ('move ("tie",0,(0,1,),)', 'move ("fix",0,2,)'), ('move ("tie",0,(0,1,),)', 'tie 0 0,1'),
                ('move ("tie",0,(0,1,),)', 'undo'), ('move ("tie",0,(0,1,),)', 'redo'),
                ('move ("tie",0,(0,1,),)', 'leave ("fill",)'), ('move ("tie",0,(0,1,),)', 'leave ("count",1,)'),
                ('move ("tie",0,(0,1,),)', ''), ('claim ("filled",)', 'claim ("none",)'),
                ("paper (1,0,1,)", "paper (1,1,1,)"), ("paper (1,0,1,)", "paper (1,0,)"),
                ("paper (1,0,1,)", "paper (1,0,1,1,)"), ("paper (0,1,0,)", "paper (0,1,1,)"),
                ('claim ("fixed",((2,0,),),)', 'claim ("fixed",(),)'), ("undo", "undo "), ("undo", "redo"),
                ("undo", "undo ()"), ("redo", 'redo ("fill",)'), ("redo", "Redo"), ("undo", 'move "undo"'),
                ("paper ((),((0,1,0,),(1,0,0,),),)", "paper ((),((0,1,0,),),)"),
                ('leave ("count",)', 'leave ("fixed",)'), ('move ("free",2,)', 'move ("free",1,)'),
                ('move ("free",2,)', 'move ("fix",2,1,)'), ('paper ("chain",(),0,)', 'paper ("chain",(),1,)'),
                ('paper ("sum",((0,(),1,),),)', 'paper ("sum",((0,(),0,),),)')):
            k = lines.index(old)
            self.assert_line_wrong(lines[:k] + [new] + lines[k + 1:], k)

    def test_lines_left_out_put_in_doubled_and_exchanged(self):
        lines = BY_HAND.split("\n")
        wrong = held = 0
        for k in range(len(lines)):
            others = [lines[:k] + lines[k + 1:], lines[:k] + lines[k:k + 1] + lines[k:],
                      lines[:k] + lines[k:k + 2][::-1] + lines[k + 2:]]
            others.extend(lines[:k] + [more] + lines[k:] for more in (
                "", "undo", "redo", "paper ()", 'claim ("filled",)', "tie 0 0,1", "cells 3", 'leave ("fill",)',
                'watch ("count",)', "relation 2 01,10"))
            for other in others:
                text = "\n".join(other)
                at = first_wrong_place(text)
                if at is None:
                    held += 1
                    self.assert_holds(text)
                else:
                    wrong += 1
                    self.assert_wrong(text, at)
        self.assertGreater(wrong, 400)
        self.assertGreater(held, 3)

    def test_the_end(self):
        lines = BY_HAND.split("\n")
        self.assert_wrong(BY_HAND + "\n", len(BY_HAND) + 1)
        self.assert_wrong(BY_HAND + "\n\n", len(BY_HAND) + 1)
        self.assert_wrong(BY_HAND + "\nundo", len(BY_HAND) + 5)
        self.assert_wrong(BY_HAND + '\nwatch ("count",)', len(BY_HAND) + 17)
        self.assert_wrong(BY_HAND + '\nwatch ("count",)\nclaim ("count",0,)', len(BY_HAND) + 36)
        self.assert_wrong(BY_HAND + '\nwatch ("count",)\nclaim ("count",1,)', len(BY_HAND) + 18)
        self.assert_holds(BY_HAND + '\nwatch ("count",)\nclaim ("count",0,)\npaper ()')
        for many in (1, 2):
            text = "\n".join(lines[:many])
            self.assert_wrong(text, len(text))
        self.assert_wrong("", 0)
        self.assert_wrong("\n", 0)
        self.assert_wrong("cells 3", 0)

    def test_any_string(self):
        for text in (" ", "undo", "relation", "relation 2", "relation 2 01,10\n", "relation 2 01,10\r\ncells 2", "()",
                     "relation 2 01,10\ncells 2\r", "relation 2 01,10\ncells \u0662", "\u0661", "x" * 1000, "\n" * 50,
                     "relation 2 01,10\ncells 2\nmove " + "(" * 1000, "relation 2 01,10\ncells 2\nmove 5",
                     "relation 2 01,10\ncells 2\nwatch \"fill\"", "relation 2 01,10\n" * 7 + "cells 2",
                     "relation 2 01,10\ncells 2\nleave ()", "relation 2 01,10\ncells 2\nclaim ()"):
            self.assert_wrong(text, first_wrong_place(text))
        self.assert_holds("relation 2 01,10\n" * 6 + "cells 2")

    def test_desks_led_by_chance(self):
        draw = drawing(292)
        for _ in range(25):
            model = led(self, draw, 40, 4)
            text = write_history(model.desk)
            self.assert_holds(text)

    def test_the_desk_goes_on_as_the_first_one(self):
        draw = drawing(293)
        reports = 0
        for _ in range(25):
            model = led(self, draw, 25, 4)
            again = relived(write_history(model.desk))
            self.assertEqual(state_of(again), state_of(model.desk))
            questions = questions_for(draw, model.now[0].cell_count)
            for _ in range(20):
                what = draw.choice(("move", "move", "undo", "redo", "watch"))
                move = drawn_move(draw, again.puzzle(), again.start())
                if what == "move":
                    calls = [(desk.move, (move,)) for desk in (model.desk, again)]
                elif what == "watch":
                    calls = [(desk.watch, (questions[0],)) for desk in (model.desk, again)]
                else:
                    calls = [((desk.undo if what == "undo" else desk.redo), ()) for desk in (model.desk, again)]
                found = [self.answer_or_error(call, arguments) for call, arguments in calls]
                self.assertEqual(*found)
                reports += type(found[0]) is tuple
                self.assertEqual(state_of(again), state_of(model.desk))
                self.assertEqual(write_history(again), write_history(model.desk))
        self.assertGreater(reports, 150)

    def answer_or_error(self, call, arguments):
        try:
            return call(*arguments)
        except (InvalidMove, NothingToUndo) as told:
            return type(told).__name__

    def test_histories_spoilt_by_chance(self):
        draw = drawing(294)
        held = wrong = 0
        for _ in range(20):
            lines = write_history(led(self, draw, 20, 3).desk).split("\n")
            for _ in range(25):
                k, other = draw.randrange(len(lines)), draw.randrange(len(lines))
                line = lines[k]
                at = draw.randrange(len(line) + 1)
                new = draw.choice((line[:at] + line[at + 1:], line[:at] + draw.choice('01(),"a ') + line[at:],
                                   line[:at] + draw.choice("0123") + line[at + 1:], lines[other]))
                text = "\n".join(lines[:k] + [new] + lines[k + 1:])
                at = first_wrong_place(text)
                if at is None:
                    held += 1
                    self.assert_holds(text)
                else:
                    wrong += 1
                    self.assert_wrong(text, at)
        self.assertGreater(wrong, 200)
        self.assertGreater(held, 10)

    def test_twelve_cells_and_long_texts(self):
        draw = drawing(295)
        book = Book([Relation(3, all_rows(3)[1:7]), ONE_OF_THREE, Relation(4, all_rows(4)[1:])])
        desk = Desk(book, 12)
        for question in [("fill",), ("fixed",), ("count",)] + [
                ("first", tuple(draw.randint(0, 1) for _ in range(12))) for _ in range(4)]:
            desk.watch(question)
        for k in range(60):
            number = draw.randrange(3)
            desk.move(("tie", number, tuple(draw.sample(range(12), book.relations[number].size))))
        text = write_history(desk)
        self.assertGreater(len(text), 30000)
        self.assertIs(history_holds(text=text), True)
        self.assertEqual(write_history(relived(text=text)), text)
        self.assertIs(history_holds(text + "\n"), False)


if __name__ == "__main__":
    unittest.main()
