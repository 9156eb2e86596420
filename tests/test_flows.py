import unittest
from random import Random

from checks import parameters_of
from flowing import flow_by_words
from lots.flows import flow_of
from lots.programs import is_program
from samples import ALWAYS, PASS, nested, places_for, some_program

KINDS = ("pass", "set", "draw", "gain", "look", "if", "while", "times", "hand")
AB = (("a", 3), ("b", 2))
TEST = ("a", "<", "b")
END = ("end",)


class FlowTest(unittest.TestCase):
    def tell(self, *block):
        self.assertIs(is_program((AB, block)), True)
        flow = flow_of((AB, block))
        self.assertIs(type(flow), list)
        self.assertTrue(all(type(stop) is tuple for stop in flow))
        self.assertEqual(flow, flow_by_words((AB, block)))
        return flow

    def test_names_and_arguments(self):
        self.assertEqual(parameters_of(flow_of), ["program"])

    def test_the_empty_program(self):
        self.assertEqual(self.tell(), [END])
        self.assertEqual(flow_of(((), ())), [END])

    def test_plain_deeds(self):
        self.assertEqual(self.tell(PASS), [("pass", 1), END])
        self.assertEqual(self.tell(("set", "a", ("b",))), [("set", "a", ("b",), 1), END])
        self.assertEqual(self.tell(("set", "a", ("b", "*", 7))), [("set", "a", ("b", "*", 7), 1), END])
        self.assertEqual(self.tell(("draw", "a", (1, 0, 2))), [("draw", "a", (1, 0, 2), 1), END])
        self.assertEqual(self.tell(("gain", "b")), [("gain", "b", 1), END])
        self.assertEqual(self.tell(("gain", 5)), [("gain", 5, 1), END])
        self.assertEqual(self.tell(("look", TEST)), [("look", TEST, 1), END])

    def test_deeds_behind_one_another(self):
        self.assertEqual(self.tell(PASS, ("gain", 5), ("look", TEST)),
                         [("pass", 1), ("gain", 5, 2), ("look", TEST, 3), END])

    def test_if(self):
        self.assertEqual(self.tell(("if", TEST, (PASS,), (("gain", 1),))),
                         [("if", TEST, 1, 2), ("pass", 3), ("gain", 1, 3), END])
        self.assertEqual(self.tell(("if", TEST, (PASS, ("gain", 2)), (("gain", 1), ("gain", 3))), PASS),
                         [("if", TEST, 1, 3), ("pass", 2), ("gain", 2, 5), ("gain", 1, 4), ("gain", 3, 5),
                          ("pass", 6), END])

    def test_if_with_empty_blocks(self):
        self.assertEqual(self.tell(("if", TEST, (), ())), [("if", TEST, 1, 1), END])
        rest = [("pass", 2), ("pass", 3), END]
        self.assertEqual(self.tell(("if", TEST, (PASS,), ()), PASS), [("if", TEST, 1, 2)] + rest)
        self.assertEqual(self.tell(("if", TEST, (), (PASS,)), PASS), [("if", TEST, 2, 1)] + rest)

    def test_while(self):
        self.assertEqual(self.tell(("while", TEST, (PASS,))), [("if", TEST, 1, 2), ("pass", 0), END])
        self.assertEqual(self.tell(PASS, ("while", TEST, (PASS, ("gain", 1))), PASS),
                         [("pass", 1), ("if", TEST, 2, 4), ("pass", 3), ("gain", 1, 1), ("pass", 5), END])

    def test_while_with_an_empty_block(self):
        self.assertEqual(self.tell(("while", TEST, ())), [("if", TEST, 0, 1), END])
        self.assertEqual(self.tell(PASS, ("while", TEST, ()), PASS),
                         [("pass", 1), ("if", TEST, 1, 2), ("pass", 3), END])
        self.assertEqual(self.tell(PASS, ("while", TEST, (("times", 0, (PASS,)), ("times", 4, ())))),
                         [("pass", 1), ("if", TEST, 1, 2), END])

    def test_times(self):
        self.assertEqual(self.tell(("times", 1, (PASS,))), [("pass", 1), END])
        self.assertEqual(self.tell(("times", 3, (PASS, ("gain", 1))), PASS),
                         [("pass", 1), ("gain", 1, 2), ("pass", 3), ("gain", 1, 4), ("pass", 5), ("gain", 1, 6),
                          ("pass", 7), END])

    def test_times_within_one_another(self):
        self.assertEqual(self.tell(("times", 2, (("times", 2, (PASS,)), ("gain", 1)))),
                         [("pass", 1), ("pass", 2), ("gain", 1, 3), ("pass", 4), ("pass", 5), ("gain", 1, 6), END])

    def test_times_without_stops(self):
        for empty in (("times", 0, (PASS,)), ("times", 5, ()), ("times", 2, (("times", 0, (PASS, PASS)),)),
                      ("times", 0, (("while", TEST, ()), ("hand", ((), ())))), ("times", 2, (("times", 3, ()),))):
            self.assertEqual(self.tell(empty), [END])
            self.assertEqual(self.tell(PASS, empty), [("pass", 1), END])
            self.assertEqual(self.tell(empty, PASS), [("pass", 1), END])
            self.assertEqual(self.tell(PASS, empty, empty, PASS), [("pass", 1), ("pass", 2), END])
            self.assertEqual(self.tell(("if", TEST, (empty,), (PASS, empty)), empty),
                             [("if", TEST, 2, 1), ("pass", 2), END])
            self.assertEqual(self.tell(("hand", ((empty,), (PASS, empty))), PASS),
                             [("hand", (2, 1)), ("pass", 2), ("pass", 3), END])
            self.assertEqual(self.tell(("while", TEST, (PASS, empty))), [("if", TEST, 1, 2), ("pass", 0), END])

    def test_blocks_within_times(self):
        self.assertEqual(self.tell(("times", 2, (("if", TEST, (PASS,), ()),))),
                         [("if", TEST, 1, 2), ("pass", 2), ("if", TEST, 3, 4), ("pass", 4), END])
        self.assertEqual(self.tell(("times", 2, (("while", TEST, (PASS,)),))),
                         [("if", TEST, 1, 2), ("pass", 0), ("if", TEST, 3, 4), ("pass", 2), END])
        self.assertEqual(self.tell(("times", 2, (("while", TEST, ()),))), [("if", TEST, 0, 1), ("if", TEST, 1, 2), END])

    def test_times_within_blocks(self):
        self.assertEqual(self.tell(("while", TEST, (("times", 2, (PASS,)),)), PASS),
                         [("if", TEST, 1, 3), ("pass", 2), ("pass", 0), ("pass", 4), END])

    def test_hand(self):
        self.assertEqual(self.tell(("hand", ((), ()))), [("hand", (1, 1)), END])
        self.assertEqual(self.tell(("hand", ((PASS,), (), (("gain", 1), ("gain", 2)))), PASS),
                         [("hand", (1, 4, 2)), ("pass", 4), ("gain", 1, 3), ("gain", 2, 4), ("pass", 5), END])
        eight = tuple((("gain", number),) for number in range(8))
        self.assertEqual(self.tell(("hand", eight)),
                         [("hand", (1, 2, 3, 4, 5, 6, 7, 8))] + [("gain", number, 9) for number in range(8)] + [END])

    def test_what_comes_behind_a_last_deed_within_blocks(self):
        self.assertEqual(self.tell(("if", TEST, (("while", TEST, (("hand", ((), (PASS,))),)),), (PASS,)), ("gain", 1)),
                         [("if", TEST, 1, 4), ("if", TEST, 2, 5), ("hand", (1, 3)), ("pass", 1), ("pass", 5),
                          ("gain", 1, 6), END])
        self.assertEqual(self.tell(("while", TEST, (("while", ALWAYS, (PASS,)),))),
                         [("if", TEST, 1, 3), ("if", ALWAYS, 2, 0), ("pass", 1), END])
        self.assertEqual(self.tell(("while", TEST, (("if", ALWAYS, (), (PASS,)),))),
                         [("if", TEST, 1, 3), ("if", ALWAYS, 0, 2), ("pass", 0), END])
        self.assertEqual(self.tell(("while", TEST, (("while", ALWAYS, ()),))),
                         [("if", TEST, 1, 2), ("if", ALWAYS, 1, 0), END])
        self.assertEqual(self.tell(("hand", ((("hand", ((), (PASS,))),), ()))),
                         [("hand", (1, 3)), ("hand", (3, 2)), ("pass", 3), END])

    def test_each_deed_at_every_place(self):
        for deed in (PASS, ("if", TEST, (PASS,), ()), ("if", TEST, (), (PASS,)), ("while", TEST, ()),
                     ("while", TEST, (PASS,)), ("times", 0, (PASS,)), ("times", 3, (PASS,)), ("hand", ((), (PASS,)))):
            for block in places_for(deed):
                self.tell(*block)
                self.tell(*(block + (("gain", 1),)))

    def test_twelve_deeds_within_one_another(self):
        mixed = ("while", "if", "hand", "times")
        for kinds in (("if",), ("else",), ("while",), ("times",), ("never",), ("hand",), mixed):
            self.tell(*nested(12, kinds, (PASS,)))
            self.tell(*nested(12, kinds, ()))

    def test_a_hundred_stops(self):
        flow = self.tell(*((PASS,) * 100))
        self.assertEqual(flow, [("pass", number + 1) for number in range(100)] + [END])
        flow = self.tell(("times", 33, (("gain", "a"), PASS)))
        self.assertEqual(len(flow), 67)

    def test_any_programs(self):
        rng = Random(40)
        seen = 0
        for turn in range(1000):
            program = some_program(rng, KINDS)
            if is_program(program):
                seen += 1
                self.assertEqual(flow_of(program), flow_by_words(program))
        self.assertGreater(seen, 500)

    def test_a_told_list_is_the_askers_own(self):
        program = (AB, (PASS, ("hand", ((), (PASS,))), ("while", TEST, ())))
        told = flow_of(program)
        kept = list(told)
        told.reverse()
        told.append(7)
        self.assertEqual(flow_of(program), kept)
        self.assertEqual(program, (AB, (PASS, ("hand", ((), (PASS,))), ("while", TEST, ()))))


if __name__ == "__main__":
    unittest.main()
