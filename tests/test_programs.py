import unittest
from random import Random

from checks import is_whole, parameters_of
from lots import programs
from lots.programs import has_hand, is_bounded, is_program, length_of
from samples import ALWAYS, PASS, WORDS, nested, places_for, some_program

LEAST_KINDS = ("if", "else", "while", "never", "hand", "times", "or")
MOST = 999999999
GREAT = 10 ** 59


def passes(count):
    return (PASS,) * count


def named(count, size):
    return tuple((name, size) for name in "abcdefghijklmnop"[:count])


class InterfaceTest(unittest.TestCase):
    def test_names_and_arguments(self):
        for name in ("length_of", "is_bounded", "has_hand"):
            self.assertEqual(parameters_of(getattr(programs, name)), ["block"])
        self.assertEqual(parameters_of(is_program), ["program"])


class LengthTest(unittest.TestCase):
    def hold(self, block, length):
        told = length_of(block)
        self.assertTrue(is_whole(told))
        self.assertEqual(told, length)

    def test_plain_deeds(self):
        self.hold((), 0)
        plain = [PASS, ("set", "a", (1, "+", "a")), ("draw", "a", (1, 2, 3)), ("gain", 9), ("look", ALWAYS)]
        for deed in plain:
            self.hold((deed,), 1)
        self.hold(tuple(plain), 5)

    def test_if(self):
        self.hold((("if", ALWAYS, (), ()),), 1)
        self.hold((("if", ALWAYS, passes(2), ()),), 3)
        self.hold((("if", ALWAYS, (), passes(3)),), 4)
        self.hold((("if", ALWAYS, passes(2), passes(5)), PASS), 9)

    def test_while(self):
        self.hold((("while", ALWAYS, ()),), 1)
        self.hold((("while", ALWAYS, passes(4)),), 5)

    def test_times(self):
        self.hold((("times", 3, passes(1)),), 7)
        self.hold((("times", 0, passes(1)),), 3)
        self.hold((("times", 1, passes(1)),), 3)
        self.hold((("times", 0, ()),), 2)
        self.hold((("times", 1, ()),), 2)
        self.hold((("times", 2, ()),), 3)
        self.hold((("times", 60, ()),), 61)
        self.hold((("times", 60, passes(2)),), 181)
        self.hold((("times", 5, passes(7)),), 41)

    def test_hand(self):
        self.hold((("hand", ((), ())),), 1)
        self.hold((("hand", (passes(1), passes(2), passes(4))),), 8)
        self.hold((("hand", (passes(3),) * 8),), 25)

    def test_within_one_another(self):
        inner = ("times", 2, (("hand", (passes(1), ())),))
        self.hold((inner,), 7)
        self.hold((("times", 3, (inner, PASS)),), 28)
        self.hold((("if", ALWAYS, (inner,), (("while", ALWAYS, (inner, inner)),)),), 23)

    def test_blocks_of_any_length(self):
        self.hold(passes(101), 101)
        self.hold(passes(5000), 5000)
        length = 1
        block = (PASS,)
        for step in range(12):
            block = (("times", 60, block),)
            length = 1 + 60 * (1 + length)
        self.hold(block, length)


class StandsTest(unittest.TestCase):
    def test_blocks_without(self):
        plain = (PASS, ("set", "a", (1,)), ("draw", "a", (1, 2)), ("gain", "a"), ("look", ALWAYS),
                 ("if", ALWAYS, (PASS,), ()), ("times", 2, (PASS,)))
        for block in ((), plain, (("if", ALWAYS, plain, (("times", 0, plain),)),)):
            self.assertIs(is_bounded(block), True)
            self.assertIs(has_hand(block), False)

    def test_while_at_any_place(self):
        self.assertIs(is_bounded((("while", ALWAYS, ()),)), False)
        self.assertIs(has_hand((("while", ALWAYS, ()),)), False)
        for block in places_for(("while", ALWAYS, ())):
            self.assertIs(is_bounded(block), False)

    def test_hand_at_any_place(self):
        self.assertIs(has_hand((("hand", ((), ())),)), True)
        self.assertIs(is_bounded((("hand", ((), ())),)), True)
        for block in places_for(("hand", ((PASS,), ()))):
            self.assertIs(has_hand(block), True)

    def test_in_each_block_of_a_hand(self):
        for place in range(8):
            blocks = [()] * 8
            blocks[place] = (("while", ALWAYS, ()),)
            self.assertIs(is_bounded((("hand", tuple(blocks)),)), False)
            blocks[place] = (("hand", ((), ())),)
            self.assertIs(has_hand((("while", ALWAYS, (("hand", tuple(blocks)),)),)), True)

    def test_deep(self):
        for depth in (1, 11):
            within = nested(depth, ("never", "else", "if"), ())
            self.assertIs(is_bounded(within), True)
            self.assertIs(has_hand(within), False)
            within = nested(depth, ("never", "else", "if"), (("while", ALWAYS, ()),))
            self.assertIs(is_bounded(within), False)
            within = nested(depth, ("never", "else", "if"), (("hand", ((), ())),))
            self.assertIs(has_hand(within), True)

    def test_words_that_are_names(self):
        block = (("set", "while", (1,)), ("gain", "hand"), ("look", ("while", "=", "hand")))
        self.assertIs(is_bounded(block), True)
        self.assertIs(has_hand(block), False)


class ProgramTest(unittest.TestCase):
    def is_one(self, boxes, block):
        self.assertIs(is_program((boxes, block)), True, (boxes, block))

    def is_none(self, boxes, block):
        self.assertIs(is_program((boxes, block)), False, (boxes, block))

    def everywhere_one(self, boxes, deed):
        for block in places_for(deed):
            self.is_one(boxes, block)

    def everywhere_none(self, boxes, deed):
        for block in places_for(deed):
            self.is_none(boxes, block)

    def test_no_boxes_and_no_deeds(self):
        self.is_one((), ())
        self.is_one((), (PASS,))
        self.is_one((("a", 3),), ())

    def test_names(self):
        for name in ("a", "z", "az", "abcdefgh", "zzzzzzzz") + WORDS:
            self.is_one(((name, 3),), ())
            self.everywhere_one(((name, 3),), ("set", name, (name, "+", name)))
        for name in ("", "abcdefghi", "A", "aB", "a1", "1", "a b", " a", "a ", "a_b", "a-b", "a\n", "\n", "`", "{",
                     "a" * 100, "\u00e9", "\u00df", "\u0430", "\u00aa", "\uff41"):
            self.is_none(((name, 3),), ())
            self.is_none((("a", 2), (name, 3)), ())

    def test_no_name_twice(self):
        self.is_none((("a", 2), ("a", 2)), ())
        self.is_none((("a", 2), ("b", 3), ("a", 4)), ())
        self.is_none(named(8, 1) + (("a", 1),), ())
        self.is_one((("a", 2), ("aa", 2), ("aaa", 2)), ())

    def test_sizes(self):
        for size in range(1, 10):
            self.is_one((("a", size),), ())
        for size in (0, -1, 10, 11, 1000, GREAT, -GREAT):
            self.is_none((("a", size),), ())
            self.is_none((("b", 1), ("a", size)), ())
        self.is_none((("a", -1), ("b", -1)), ())
        self.is_none((("a", 0), ("b", 10)), ())

    def test_truths_are_no_whole_numbers(self):
        self.is_none((("a", True),), ())
        self.is_none((("a", 1),), (("gain", True),))
        self.is_none((), (("times", True, ()),))
        self.is_none((("a", 2),), (("draw", "a", (True, 1)),))

    def test_number_of_boxes(self):
        self.is_one(named(9, 1), ())
        self.is_one(named(9, 2), ())
        self.is_none(named(10, 1), ())
        self.is_none(named(16, 1), ())

    def test_all_sizes_multiplied(self):
        self.is_one((("a", 5), ("b", 5), ("c", 5), ("d", 8)), ())
        self.is_one((("a", 9), ("b", 9), ("c", 9)), ())
        self.is_one((("a", 1), ("b", 8), ("c", 5), ("d", 5), ("e", 1), ("f", 5)), ())
        self.is_none((("a", 2), ("b", 8), ("c", 7), ("d", 9)), ())
        self.is_none((("a", 3), ("b", 7), ("c", 6), ("d", 8)), ())
        self.is_none((("a", 9), ("b", 9), ("c", 9), ("d", 9)), ())
        self.is_none(named(9, 9), ())
        self.is_none((("a", 2),) + tuple((name, 2) for name in "bcdefgh") + (("i", 4),), ())

    def test_unknown_names_in_every_place_of_every_deed(self):
        boxes = (("a", 2), ("ab", 2))
        forms = [
            lambda name: ("set", name, (1,)),
            lambda name: ("set", "a", (name,)),
            lambda name: ("set", "a", (name, "+", 1)),
            lambda name: ("set", "a", (1, "-", name)),
            lambda name: ("set", "a", ("ab", "*", name)),
            lambda name: ("draw", name, (1, 1)),
            lambda name: ("gain", name),
            lambda name: ("look", (name, "=", 1)),
            lambda name: ("look", (1, "<", name)),
            lambda name: ("if", (name, "#", "a"), (), ()),
            lambda name: ("if", ("a", "=", name), (), ()),
            lambda name: ("while", (name, "<", "a"), ()),
            lambda name: ("while", ("a", "#", name), ()),
        ]
        for form in forms:
            for name in ("a", "ab"):
                self.everywhere_one(boxes, form(name))
            for name in ("b", "abc", "aa", "", "A", "1", "abcdefghi"):
                self.everywhere_none(boxes, form(name))
            self.is_none((), (form("c"),))

    def test_numbers_in_every_operand(self):
        boxes = (("a", 2),)
        forms = [
            lambda number: ("set", "a", (number,)),
            lambda number: ("set", "a", (number, "+", 1)),
            lambda number: ("set", "a", (1, "-", number)),
            lambda number: ("set", "a", ("a", "*", number)),
            lambda number: ("gain", number),
            lambda number: ("look", (number, "=", "a")),
            lambda number: ("look", (1, "<", number)),
            lambda number: ("if", (number, "#", 1), (), ()),
            lambda number: ("if", ("a", "=", number), (), ()),
            lambda number: ("while", (number, "<", 1), ()),
            lambda number: ("while", (1, "#", number), ()),
        ]
        for form in forms:
            for number in (0, 1, MOST - 1, MOST):
                self.everywhere_one(boxes, form(number))
            for number in (-1, 10 ** 9, -MOST, GREAT, -GREAT):
                self.everywhere_none(boxes, form(number))

    def test_weights(self):
        boxes = (("a", 1), ("b", 3), ("c", 9))
        self.everywhere_one(boxes, ("draw", "a", (1,)))
        self.everywhere_one(boxes, ("draw", "a", (MOST,)))
        self.everywhere_one(boxes, ("draw", "b", (0, 0, 1)))
        self.everywhere_one(boxes, ("draw", "b", (MOST, MOST, MOST)))
        self.everywhere_one(boxes, ("draw", "c", (0,) * 8 + (1,)))
        for weights in ((), (1, 1), (1, 1, 1, 1), (1,), (1,) * 9):
            self.everywhere_none(boxes, ("draw", "b", weights))
        self.everywhere_none(boxes, ("draw", "a", ()))
        self.everywhere_none(boxes, ("draw", "c", (1,) * 8))
        self.everywhere_none(boxes, ("draw", "c", (1,) * 10))
        for weights in ((0, 0, 0), (1, -1, 1), (-1, 0, 0), (2, -1, 0), (1, 10 ** 9, 1), (10 ** 9, 0, 0),
                        (0, 0, GREAT), (-1, -1, 3)):
            self.everywhere_none(boxes, ("draw", "b", weights))
        self.everywhere_none(boxes, ("draw", "a", (0,)))

    def test_weights_fit_the_box_that_is_drawn(self):
        boxes = (("a", 2), ("b", 3))
        self.is_one(boxes, (("draw", "a", (1, 1)), ("draw", "b", (1, 1, 1))))
        self.is_none(boxes, (("draw", "b", (1, 1)),))
        self.is_none(boxes, (("draw", "a", (1, 1, 1)),))

    def test_times(self):
        for number in (0, 1, 59, 60):
            self.is_one((), (("times", number, ()),))
        self.everywhere_one((), ("times", 16, ()))
        self.is_one((), (("if", ALWAYS, (("times", 60, ()),), ()),))
        for number in (61, 62, 10 ** 9, GREAT, -1, -60, -GREAT):
            self.everywhere_none((), ("times", number, ()))

    def test_times_beyond_its_bound_and_within_the_length(self):
        # The length alone would let 61 turns pass.
        self.assertLessEqual(length_of((("times", 61, ()),)), 100)
        self.is_none((), (("times", 61, ()),))

    def test_blocks_of_a_hand(self):
        for count in range(2, 9):
            self.everywhere_one((), ("hand", ((),) * count))
        for count in (0, 1, 9, 10, 30):
            self.everywhere_none((), ("hand", ((),) * count))
        self.is_one((), (("hand", ((PASS,),) * 8),))
        self.is_none((), (("hand", ((PASS,),)),))

    def test_twelve_within_one_another(self):
        for kind in ("if", "else", "while", "hand", "or"):
            self.is_one((), nested(12, (kind,), ()))
            self.is_one((), nested(12, (kind,), (PASS,)))
            self.is_none((), nested(13, (kind,), ()))
            self.is_none((), nested(13, (kind,), (PASS,)))
            self.is_none((), nested(30, (kind,), ()))
        for shift in range(len(LEAST_KINDS)):
            kinds = LEAST_KINDS[shift:] + LEAST_KINDS[:shift]
            self.is_one((), nested(12, kinds, (PASS, PASS)))
            self.is_one((), (PASS,) + nested(12, kinds, ()) + nested(12, kinds, ()))
            self.is_none((), nested(13, kinds, ()))
            self.is_none((), (PASS,) + nested(13, kinds, ()))
            self.is_none((), nested(12, kinds, ()) + nested(13, kinds, ()) + (PASS,))

    def test_twelve_times_within_one_another(self):
        self.assertLessEqual(length_of(nested(13, ("times",), ())), 100)
        self.is_one((), nested(12, ("times",), ()))
        self.is_one((), nested(12, ("never",), (PASS,)))
        self.is_none((), nested(13, ("times",), ()))
        self.is_none((), nested(13, ("never",), ()))

    def test_many_side_by_side(self):
        self.is_one((), (("if", ALWAYS, (), ()),) * 100)
        self.is_one((), (("if", ALWAYS, (("while", ALWAYS, ()),) * 49, (("hand", ((), ())),) * 50),))

    def test_a_length_of_a_hundred(self):
        self.is_one((), passes(100))
        self.is_none((), passes(101))
        self.is_none((), passes(1000))
        self.is_one((), (("times", 33, passes(2)),))
        self.is_none((), (("times", 33, passes(2)), PASS))
        self.is_one((), (("times", 9, passes(10)),))
        self.is_none((), (("times", 10, passes(9)),))
        self.is_one((), (("times", 0, passes(98)),))
        self.is_none((), (("times", 0, passes(99)),))
        self.is_one((), (("while", ALWAYS, passes(99)),))
        self.is_none((), (("while", ALWAYS, passes(100)),))
        self.is_one((), (("if", ALWAYS, passes(50), passes(49)),))
        self.is_none((), (("if", ALWAYS, passes(50), passes(50)),))
        self.is_one((), (("hand", (passes(33), passes(33), passes(33))),))
        self.is_none((), (("hand", (passes(33), passes(33), passes(34))),))
        self.is_one((), (("times", 60, ()),) + passes(39))
        self.is_none((), (("times", 60, ()),) + passes(40))

    def test_a_length_of_a_hundred_deep_within(self):
        self.is_one((), nested(12, ("if",), passes(88)))
        self.is_none((), nested(12, ("if",), passes(89)))
        self.is_one((), nested(12, ("times",), passes(76)))
        self.is_none((), nested(12, ("times",), passes(77)))
        self.is_none((), nested(2, ("if",), (("times", 60, (("times", 60, ()),)),)))

    def test_the_tuple_handed_in_stays(self):
        rng = Random(12)
        for turn in range(50):
            program = some_program(rng, ("set", "draw", "gain", "look", "if", "while", "times", "hand"))
            kept = repr(program)
            told = [is_program(program), length_of(program[1]), is_bounded(program[1]), has_hand(program[1])]
            again = [is_program(program), length_of(program[1]), is_bounded(program[1]), has_hand(program[1])]
            self.assertEqual(told, again)
            self.assertEqual(repr(program), kept)


if __name__ == "__main__":
    unittest.main()
