"""Point [29], with [1] and [2]: values told in a text, and read again."""

import unittest

from eightcells.errors import InvalidText
from eightcells.histories import told, untold
from tests.cases import Case
from tests.history_judge import by_hand, read_by_hand
from tests.samples import nested
from tests.worked_out import drawing

# Values with their texts, written out by hand.
TEXTS = [
    (0, "0"), (7, "7"), (-1, "-1"), (-100, "-100"), (10, "10"), (999999999999, "999999999999"),
    (-999999999999, "-999999999999"), (100000000000, "100000000000"), ("a", '"a"'), ("all no", '"all no"'),
    (" ", '" "'), ("  z ", '"  z "'), ((), "()"), ((0,), "(0,)"), (((),), "((),)"), (((), ()), "((),(),)"),
    (("fill",), '("fill",)'), (("first", (0, 1)), '("first",(0,1,),)'), ((-5, "x", (-6, ())), '(-5,"x",(-6,(),),)'),
    (("chain", ((0, 1, 1),), 2), '("chain",((0,1,1,),),2,)'), (("count", 4096), '("count",4096,)'),
    ((("and or",), 12, -3), '(("and or",),12,-3,)')]

WRONG = [
    "", " ", "  ", "-", "--1", "-0", "00", "01", "-01", "000", "+1", "1 ", " 1", "1,", ",1", "1,2", "1 2", "0x1", "1_0",
    "1.0", "1e3", "1000000000000", "-1000000000000", "0000000000001", '"', '""', '"a', 'a"', "a", "'a'", '"A"', '"a1"',
    '"a_b"', '"a-b"', '"a,b"', '"a\n"', '"a\t"', '"a""b"', '"a" ', ' "a"', '"a"b', '"a",', '"a\\"b"', '"(a)"', "(", ")",
    "(,", "(,)", "()(", "())", "(()", "((),", "()()", "(),", ",()", "(0)", "(0", "(0,", "(0,,)", "(,0)", "(0,1)",
    "(0 ,)", "(0, )", "(0, 1,)", "( 0,)", "(0,) ", " (0,)", "(0,)\n", "\n(0,)", "(0,1,", "(0,1,))", "(00,)", "(-0,)",
    "(-,)", "(1-,)", "[0,]", "{}", "[]", "(0;1;)", '("a)', '("a,)', '(a",)', '("",)', '("A",)', '("a" ,)', "(0,(1,)",
    "(0,(1,),", "(0,1,)2", "None", "True", "(True,)", "(None,)", "\u0661", "(\u0661,)", "1\u0662", "\uff11", "\u00b2",
    '"\u00e9"', '"\u03b1"', '"a\u00a0b"', '("\u00df",)', "\u00bd", "\u2212" + "1", "\u4e00", "1\u0000", "\ufeff1"]


class ToldTest(Case):

    def test_texts_written_out_by_hand(self):
        for value, text in TEXTS:
            self.assertEqual(told(value), text)
            found = untold(text)
            self.assertEqual(found, value)
            self.assertIs(type(found), type(value))
            self.assertEqual(by_hand(value), text)

    def test_longer_integers_are_told(self):
        self.assertEqual(told(1234567890123), "1234567890123")
        self.assertEqual(told((-10 ** 12,)), "(-1000000000000,)")
        self.assertEqual(told((10 ** 20, 5)), "(100000000000000000000,5,)")

    def test_sixty_tuples_within_one_another(self):
        for inner in ((), (0,), ("a", -1)):
            value = nested(59, lambda members: tuple(members), inner)
            text = "(" * 59 + told(inner) + ",)" * 59
            self.assertEqual(told(value), text)
            self.assertEqual(untold(text), value)
            deeper = "(" + text + ",)"
            self.assert_wrong(deeper)
            self.assert_wrong("(0,(1,)," + text + ",)")
            self.assertEqual(untold("(" + text[1:-2] + ",(),)"), value + ((),))
        self.assert_wrong("(" * 61 + ")" + ",)" * 60)
        self.assert_wrong("(" * 200000)
        self.assertEqual(untold("((),(),((),),)"), ((), (), ((),)))

    def test_values_drawn(self):
        draw = drawing(291)
        for _ in range(300):
            value = self.drawn_value(draw, draw.randint(0, 5))
            self.assertEqual(told(value), by_hand(value))
            self.assertEqual(untold(told(value)), value)

    def drawn_value(self, draw, depth):
        if depth and draw.random() < 0.8:
            return tuple(self.drawn_value(draw, depth - 1) for _ in range(draw.randint(0, 4)))
        if draw.random() < 0.5:
            return draw.choice((0, 1, -1, 9, 10, -10, 123456789012, draw.randint(-10 ** 11, 10 ** 11)))
        return "".join(draw.choice("abz ") for _ in range(draw.randint(1, 5)))

    def assert_wrong(self, text):
        with self.assertRaises(InvalidText) as raised:
            untold(text)
        self.assertIs(type(raised.exception), InvalidText)
        self.assertEqual(raised.exception.text, text)
        self.assertIs(type(raised.exception.at), int)
        self.assertTrue(0 <= raised.exception.at <= len(text))

    def test_what_is_no_text_of_a_value(self):
        for text in WRONG:
            self.assertIsNone(read_by_hand(text))
            self.assert_wrong(text)

    def test_texts_spoilt_at_one_place(self):
        signs = '()," -0159az\nA_\u0661\u00e9'
        held = wrong = 0
        for _, text in TEXTS:
            for k in range(len(text) + 1):
                for other in [text[:k] + text[k + 1:], text[:k]] + [text[:k] + sign + text[k:] for sign in signs] + [
                        text[:k] + sign + text[k + 1:] for sign in signs]:
                    value = read_by_hand(other)
                    if value is None:
                        wrong += 1
                        self.assert_wrong(other)
                    else:
                        held += 1
                        self.assertEqual(untold(other), value)
        self.assertGreater(min(held, wrong), 500)

    def test_long_texts(self):
        value = tuple(("chain", ((k, k % 40, k % 2), (k, 3, 0)), -k) for k in range(6000))
        text = told(value)
        self.assertGreater(len(text), 200000)
        self.assertEqual(untold(text), value)
        self.assert_wrong(text[:-1])
        self.assert_wrong(text + ")")
        self.assert_wrong("1" * 200000)
        self.assertEqual(untold('"' + "a b" * 60000 + '"'), "a b" * 60000)
        self.assert_wrong('"' + "a b" * 60000)

    def test_arguments_by_name(self):
        self.assertEqual(told(value=(1,)), "(1,)")
        self.assertEqual(untold(text="(1,)"), (1,))


if __name__ == "__main__":
    unittest.main()
