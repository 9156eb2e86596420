import unittest
from random import Random

from checks import is_fraction, is_whole, parameters_of
from lots.boxes import start_of, states_of
from lots.errors import NoBound, TooMany
from lots.programs import is_bounded, is_program
from lots.trees import tree_of
from oracle import Enough, leaves_of, tree_by_runs
from samples import ALWAYS, PASS, nested, places_for, some_program

KINDS = ("pass", "set", "draw", "gain", "look", "if", "times", "hand")
NEVER = (0, "=", 1)
AB = (("a", 3), ("b", 2))
COIN = (("a", 2),)
HALVES = ("draw", "a", (1, 1))
# Boxes of which 400 states are drawn, one leaf each.
WIDE = (("a", 4), ("b", 4), ("c", 5), ("d", 5))
ALL = (("draw", "a", (1,) * 4), ("draw", "b", (1,) * 4), ("draw", "c", (1,) * 5), ("draw", "d", (1,) * 5))


class TreeTest(unittest.TestCase):
    def well_built(self, tree):
        self.assertIs(type(tree), tuple)
        if tree[0] == "end":
            self.assertEqual(len(tree), 3)
            self.assertIs(type(tree[1]), tuple)
            self.assertTrue(all(is_whole(number) for number in tree[1]))
            self.assertTrue(is_whole(tree[2]))
        elif tree[0] == "lost":
            self.assertEqual(len(tree), 2)
            self.assertTrue(is_whole(tree[1]))
        else:
            self.assertIn(tree[0], ("draw", "hand"))
            self.assertEqual(len(tree), 2)
            self.assertIs(type(tree[1]), tuple)
            for part in tree[1]:
                if tree[0] == "draw":
                    self.assertIs(type(part), tuple)
                    self.assertTrue(is_fraction(part[0]))
                    self.assertEqual(len(part), 2)
                self.well_built(part[1] if tree[0] == "draw" else part)

    def hold(self, boxes, block, state):
        self.assertIs(is_program((boxes, block)), True)
        tree = tree_of((boxes, block), state)
        self.well_built(tree)
        self.assertEqual(tree, tree_by_runs((boxes, block), state))
        self.assertEqual(tree_of((boxes, block), state), tree)
        return tree

    def test_names_and_arguments(self):
        self.assertEqual(parameters_of(tree_of), ["program", "state"])

    def test_an_empty_program(self):
        self.assertEqual(self.hold((), (), ()), ("end", (), 0))
        self.assertEqual(self.hold(AB, (), (2, 1)), ("end", (2, 1), 0))

    def test_pass(self):
        self.assertEqual(self.hold(AB, (PASS,), (2, 1)), ("end", (2, 1), 0))
        self.assertEqual(self.hold(AB, (PASS, PASS), (0, 0)), ("end", (0, 0), 0))

    def test_set(self):
        self.assertEqual(self.hold(AB, (("set", "a", (0, "-", 1)),), (0, 1)), ("end", (2, 1), 0))
        self.assertEqual(self.hold(AB, (("set", "b", ("a", "*", 2)),), (2, 1)), ("end", (2, 0), 0))
        twice = (("set", "a", ("a", "+", "b")), ("set", "b", ("a",)))
        self.assertEqual(self.hold(AB, twice, (1, 1)), ("end", (2, 0), 0))
        self.assertEqual(self.hold(AB, (("set", "a", (999999999, "*", 999999999)),), (1, 1)), ("end", (0, 1), 0))

    def test_gain(self):
        self.assertEqual(self.hold(AB, (("gain", 7),), (2, 1)), ("end", (2, 1), 7))
        self.assertEqual(self.hold(AB, (("gain", "a"), ("gain", 7), ("gain", "b")), (2, 1)), ("end", (2, 1), 10))
        changed = (("gain", "a"), ("set", "a", (1,)), ("gain", "a"))
        self.assertEqual(self.hold(AB, changed, (2, 1)), ("end", (1, 1), 3))
        self.assertEqual(self.hold((), (("gain", 999999999),) * 100, ()), ("end", (), 99999999900))
        self.assertEqual(self.hold(AB, (("gain", 0),), (0, 0)), ("end", (0, 0), 0))

    def test_look(self):
        self.assertEqual(self.hold(AB, (("look", ALWAYS),), (2, 1)), ("end", (2, 1), 0))
        self.assertEqual(self.hold(AB, (("look", NEVER),), (2, 1)), ("lost", 0))
        behind = (("gain", 4), ("look", ("a", "=", 1)), ("gain", 9), ("look", ("b", "#", 0)), ("gain", "a"))
        self.assertEqual(self.hold(AB, behind, (0, 1)), ("lost", 4))
        self.assertEqual(self.hold(AB, behind, (1, 0)), ("lost", 13))
        self.assertEqual(self.hold(AB, behind, (1, 1)), ("end", (1, 1), 14))

    def test_what_stands_behind_a_lost_one_is_not_done(self):
        self.assertEqual(self.hold(COIN, (("look", NEVER), HALVES, ("hand", ((), ()))), (0,)), ("lost", 0))
        within = (("times", 3, (("gain", 1), ("if", ALWAYS, (("look", ("a", "#", 0)),), ()))), ("gain", 100))
        self.assertEqual(self.hold(COIN, within, (0,)), ("lost", 1))

    def test_draw(self):
        draw = ("draw", "a", (1, 2, 3))
        self.assertEqual(
            self.hold(AB, (draw,), (2, 1)),
            ("draw", (((1, 6), ("end", (0, 1), 0)), ((1, 3), ("end", (1, 1), 0)), ((1, 2), ("end", (2, 1), 0)))),
        )
        self.assertEqual(
            self.hold(AB, (("gain", 5), draw, ("gain", "a"), ("look", ("a", "#", 1))), (2, 1)),
            ("draw", (((1, 6), ("end", (0, 1), 5)), ((1, 3), ("lost", 6)), ((1, 2), ("end", (2, 1), 7)))),
        )

    def test_a_draw_of_one_way(self):
        self.assertEqual(self.hold(AB, (("draw", "a", (0, 0, 5)),), (0, 0)), ("draw", (((1, 1), ("end", (2, 0), 0)),)))
        self.assertEqual(self.hold((("a", 1),), (("draw", "a", (3,)),), (0,)), ("draw", (((1, 1), ("end", (0,), 0)),)))

    def test_weights_of_nought(self):
        self.assertEqual(
            self.hold(AB, (("draw", "a", (6, 0, 2)),), (1, 1)),
            ("draw", (((3, 4), ("end", (0, 1), 0)), ((1, 4), ("end", (2, 1), 0)))),
        )

    def test_draws_behind_one_another(self):
        twice = (HALVES, ("if", ("a", "=", 0), (("draw", "a", (1, 3)),), ()))
        again = ("draw", (((1, 4), ("end", (0,), 0)), ((3, 4), ("end", (1,), 0))))
        self.assertEqual(self.hold(COIN, twice, (1,)), ("draw", (((1, 2), again), ((1, 2), ("end", (1,), 0)))))

    def test_if(self):
        block = (("if", ("a", "<", "b"), (("gain", 1), ("set", "a", (2,))), (("gain", 10),)), ("gain", "a"))
        self.assertEqual(self.hold(AB, block, (0, 1)), ("end", (2, 1), 3))
        self.assertEqual(self.hold(AB, block, (1, 1)), ("end", (1, 1), 11))
        self.assertEqual(self.hold(AB, (("if", ALWAYS, (), (("gain", 1),)),), (1, 1)), ("end", (1, 1), 0))

    def test_times(self):
        for number, gain in ((0, 0), (1, 2), (2, 4), (30, 60)):
            self.assertEqual(self.hold((), (("times", number, (("gain", 2),)),), ()), ("end", (), gain))
        self.assertEqual(self.hold((), (("times", 60, ()), ("gain", 1)), ()), ("end", (), 1))
        turns = (("times", 3, (("set", "a", ("a", "+", 1)), ("times", 2, (("gain", "a"),)))), ("gain", 100))
        self.assertEqual(self.hold(AB, turns, (0, 0)), ("end", (0, 0), 106))

    def test_draws_within_times(self):
        tree = self.hold(COIN, (("times", 3, (HALVES, ("gain", "a"))),), (0,))
        self.assertEqual(leaves_of(tree), 8)
        self.assertEqual(tree[1][1][1][1][0][1][1][1], ((1, 2), ("end", (1,), 2)))

    def test_hand(self):
        self.assertEqual(self.hold((), (("hand", ((), ())),), ()), ("hand", (("end", (), 0), ("end", (), 0))))
        block = (("gain", 1), ("hand", ((("gain", 2),), (("look", NEVER),), ())), ("gain", 4))
        self.assertEqual(self.hold((), block, ()), ("hand", (("end", (), 7), ("lost", 1), ("end", (), 5))))
        eight = (("hand", tuple((("gain", number),) for number in range(8))),)
        self.assertEqual(self.hold((), eight, ()), ("hand", tuple(("end", (), number) for number in range(8))))

    def test_hands_within_hands_and_times(self):
        inner = ("hand", ((("gain", 1),), ()))
        self.assertEqual(
            self.hold((), (("hand", ((inner,), (("gain", 5),))), ("gain", 10)), ()),
            ("hand", (("hand", (("end", (), 11), ("end", (), 10))), ("end", (), 15))),
        )
        self.assertEqual(
            self.hold((), (("times", 2, (inner,)),), ()),
            ("hand", (("hand", (("end", (), 2), ("end", (), 1))), ("hand", (("end", (), 1), ("end", (), 0))))),
        )

    def test_draws_and_hands(self):
        self.assertEqual(
            self.hold(COIN, (HALVES, ("if", ("a", "=", 0), (("hand", ((), (("gain", 3),))),), ())), (0,)),
            ("draw", (((1, 2), ("hand", (("end", (0,), 0), ("end", (0,), 3)))), ((1, 2), ("end", (1,), 0)))),
        )

    def test_each_deed_at_every_place_from_every_state(self):
        for deed in (PASS, ("set", "a", ("a", "+", "b")), ("draw", "a", (1, 0, 2)), ("gain", "a"),
                     ("look", ("a", "#", "b")), ("if", ("a", "<", "b"), (("gain", 1),), (("set", "b", (1,)),)),
                     ("times", 2, (("draw", "b", (1, 2)),)), ("hand", ((("set", "a", (0,)),), (("gain", "b"),)))):
            for block in places_for(deed):
                if is_bounded(block):
                    for state in states_of(AB):
                        self.hold(AB, block + (("gain", "a"),), state)

    def test_any_programs(self):
        rng = Random(14)
        seen = 0
        for turn in range(800):
            program = some_program(rng, KINDS)
            if not is_program(program):
                continue
            state = rng.choice(states_of(program[0]))
            try:
                tree = tree_by_runs(program, state)
            except Enough:
                with self.assertRaises(TooMany):
                    tree_of(program, state)
                continue
            seen += 1
            self.well_built(tree_of(program, state))
            self.assertEqual(tree_of(program, state), tree)
        self.assertGreater(seen, 400)

    def test_great_weights(self):
        tree = self.hold(COIN, (("draw", "a", (999999999, 999999998)),) * 8, (0,))
        self.assertEqual(tree[1][0][0], (999999999, 1999999997))

    def test_a_hundred_draws_on_a_way(self):
        tree = tree_of(((("a", 2),), (("draw", "a", (0, 1)),) * 100), (0,))
        for step in range(100):
            self.assertEqual((tree[0], len(tree[1]), tree[1][0][0]), ("draw", 1, (1, 1)))
            tree = tree[1][0][1]
        self.assertEqual(tree, ("end", (1,), 0))

    def test_many_hands_on_a_way(self):
        tree = self.hold((), (("times", 33, (("hand", ((("look", NEVER),), ())),)),), ())
        self.assertEqual(leaves_of(tree), 34)


class RefusalsTest(unittest.TestCase):
    def too_many(self, boxes, block, state):
        self.assertIs(is_program((boxes, block)), True)
        with self.assertRaises(TooMany):
            tree_of((boxes, block), state)

    def leaves(self, boxes, block, state, count):
        self.assertIs(is_program((boxes, block)), True)
        self.assertEqual(leaves_of(tree_of((boxes, block), state)), count)

    def test_four_hundred_leaves(self):
        self.leaves(WIDE, ALL, (0, 0, 0, 0), 400)
        self.leaves(WIDE, ALL + (("look", NEVER),), (0, 0, 0, 0), 400)
        self.leaves(WIDE, ALL + (("look", ("a", "=", 1)),), (0, 0, 0, 0), 400)
        hands = (("hand", ((),) * 8), ("hand", ((),) * 5), ("hand", ((),) * 5), ("hand", ((), ())))
        self.leaves((), hands, (), 400)

    def test_one_leaf_more(self):
        self.too_many(WIDE, (("hand", (ALL, ())),), (0, 0, 0, 0))
        self.too_many(WIDE, (("hand", ((), ALL)),), (0, 0, 0, 0))
        self.too_many(WIDE, (("hand", (ALL, (("look", NEVER),))),), (0, 0, 0, 0))
        self.too_many(WIDE, (("hand", ((("look", NEVER),), ALL + (("look", NEVER),))),), (0, 0, 0, 0))
        coin = (("e", 2),)
        parted = (("draw", "e", (1, 1)), ("if", ("e", "=", 0), ALL, ()))
        self.too_many(WIDE + coin, parted, (0, 0, 0, 0, 0))
        self.leaves(WIDE + coin, (("draw", "e", (0, 1)),) + ALL, (0, 0, 0, 0, 0), 400)

    def test_a_told_tree_leaves_no_count_behind(self):
        for turn in range(3):
            self.leaves(WIDE, ALL, (0, 0, 0, 0), 400)
            self.too_many(WIDE, (("hand", (ALL, ())),), (0, 0, 0, 0))

    def test_very_many_leaves(self):
        self.too_many((("a", 9),), (("draw", "a", (1,) * 9),) * 100, (0,))
        self.too_many((), (("hand", ((),) * 8),) * 100, ())
        self.too_many((), (("times", 49, (("hand", ((), ())),)),), ())
        self.too_many(COIN, (HALVES,) * 99 + (("look", NEVER),), (0,))

    def test_no_bound_where_a_while_stands(self):
        for block in places_for(("while", NEVER, ())) + [nested(11, ("never", "if"), (("while", NEVER, ()),))]:
            self.assertIs(is_program((AB, block)), True)
            for state in (start_of(AB), (2, 1)):
                with self.assertRaises(NoBound):
                    tree_of((AB, block), state)
        with self.assertRaises(NoBound):
            tree_of(((), (("look", NEVER), ("while", ALWAYS, ()))), ())

    def test_no_bound_goes_first(self):
        for block in (
            (HALVES,) * 90 + (("while", NEVER, ()),),
            (("while", NEVER, ()),) + (HALVES,) * 90,
            (HALVES,) * 90 + (("times", 0, (("while", NEVER, ()),)),),
        ):
            self.assertIs(is_program((COIN, block)), True)
            with self.assertRaises(NoBound):
                tree_of((COIN, block), (0,))


if __name__ == "__main__":
    unittest.main()
