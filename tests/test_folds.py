import unittest
from fractions import Fraction
from math import comb
from random import Random

from checks import figures, is_whole, pair_of, parameters_of
from lots.boxes import start_of, states_of
from lots.errors import NoBound, TooMany
from lots.folds import fold_back
from lots.programs import is_bounded, is_program
from lots.runs import best_of, ends_of
from lots.stores import Store
from lots.trees import tree_of
from samples import ALWAYS, PASS, nested, places_for, some_program
from tables import folded, node_of, some_table, table_of

KINDS = ("pass", "set", "draw", "gain", "look", "if", "times", "hand")
NEVER = (0, "=", 1)
AB = (("a", 3), ("b", 2))
COIN = (("a", 2),)
HALVES = ("draw", "a", (1, 1))
HALF_B = ("draw", "b", (1, 1))
VALUES = [(0, 1), (1, 1), (-1, 1), (1, 2), (-2, 3), (5, 1), (10 ** 59, 1), (-1, 10 ** 59)]
DEEDS = (
    PASS,
    ("set", "a", ("b",)),
    ("set", "a", ("a", "+", "b")),
    ("draw", "a", (1, 0, 2)),
    ("gain", "a"),
    ("gain", 7),
    ("look", ("a", "#", "b")),
    ("if", ("a", "<", "b"), (("gain", 1),), (("set", "b", (1,)),)),
    ("times", 2, (("draw", "b", (1, 2)), ("gain", "b"))),
    ("hand", ((("set", "a", (0,)),), (("gain", "b"), ("look", ("a", "=", 1))))),
)


class FoldTest(unittest.TestCase):
    def hold(self, store, block, table, counted):
        """The node told is the one that forks and leaves of the asked fractions make, and is told again."""
        self.assertIs(is_program((store.boxes, block)), True)
        aim = node_of(store, table)
        asked = folded(store.boxes, block, table, counted)
        node = fold_back(store, block, aim, counted)
        self.assertTrue(is_whole(node))
        self.assertEqual(table_of(store, node), asked)
        self.assertEqual(node_of(store, asked), node)
        self.assertEqual(fold_back(store, block, aim, counted), node)
        self.assertEqual(table_of(store, aim), table)
        return node

    def everywhere(self, boxes, block):
        """The block with aims of several sorts, gains counted and not."""
        rng = Random(30)
        store = Store(boxes)
        aims = [some_table(rng, boxes, VALUES) for turn in range(3)]
        aims.append({state: (0, 1) for state in states_of(boxes)})
        aims.append({state: (number, 1) for number, state in enumerate(states_of(boxes))})
        for aim in aims:
            for counted in (True, False):
                self.hold(store, block, aim, counted)


class DeedsTest(FoldTest):
    def setUp(self):
        self.store = Store(AB)
        # Tells 10 a + b, so that each state has its own number.
        self.aim = node_of(self.store, {(a, b): (10 * a + b, 1) for a, b in states_of(AB)})

    def tell(self, block, counted=True):
        """What comes of the block, in the order of the states (0, 0), (0, 1), (1, 0) .."""
        node = fold_back(self.store, block, self.aim, counted)
        return [self.store.value_at(node, state) for state in states_of(AB)]

    def test_names_and_arguments(self):
        self.assertEqual(parameters_of(fold_back), ["store", "block", "aim", "counted"])

    def test_no_deed_is_the_aim_itself(self):
        for aim in (self.aim, self.store.leaf((1, 3)), self.store.point((2, 1))):
            for counted in (True, False):
                self.assertEqual(fold_back(self.store, (), aim, counted), aim)
                self.assertEqual(fold_back(self.store, (PASS,), aim, counted), aim)
        bare = Store(())
        self.assertEqual(fold_back(bare, (), bare.leaf((2, 3)), True), bare.leaf((2, 3)))

    def test_set(self):
        whole = [(0, 1), (1, 1), (10, 1), (11, 1), (20, 1), (21, 1)]
        self.assertEqual(self.tell(()), whole)
        self.assertEqual(self.tell((("set", "a", (1,)),)), [(10, 1), (11, 1)] * 3)
        self.assertEqual(self.tell((("set", "a", ("b",)),)), [(0, 1), (11, 1)] * 3)
        self.assertEqual(self.tell((("set", "b", ("a",)),)), [(0, 1), (0, 1), (11, 1), (11, 1), (20, 1), (20, 1)])
        self.assertEqual(self.tell((("set", "a", (0, "-", 1)),)), [(20, 1), (21, 1)] * 3)
        self.assertEqual(self.tell((("set", "a", ("a", "-", 1)),)), whole[4:] + whole[:4])
        self.assertEqual(self.tell((("set", "a", ("b", "-", "a")),)),
                         [(0, 1), (11, 1), (20, 1), (1, 1), (10, 1), (21, 1)])
        self.assertEqual(self.tell((("set", "a", ("a",)), ("set", "b", ("b", "+", 0)))), whole)
        great = ("set", "a", (999999999, "*", 999999998))
        self.assertEqual(self.tell((great,)), [(0, 1), (1, 1)] * 3)
        self.assertEqual(self.tell((("set", "b", ("a", "-", 999999999)),)),
                         [(1, 1), (1, 1), (10, 1), (10, 1), (21, 1), (21, 1)])

    def test_every_reckoning(self):
        for name in ("a", "b"):
            for one in ("a", "b", 0, 1, 2, 999999999):
                self.everywhere(AB, (("set", name, (one,)),))
                for sign in ("+", "-", "*"):
                    for other in ("a", "b", 3, 999999999):
                        self.everywhere(AB, (("set", name, (one, sign, other)),))

    def test_draw(self):
        self.assertEqual(self.tell((("draw", "a", (1, 1, 2)),)), [(25, 2), (27, 2)] * 3)
        thirds = [pair_of(Fraction(30 * a + 1, 3)) for a, b in states_of(AB)]
        self.assertEqual(self.tell((("draw", "b", (2, 1)),)), thirds)
        self.assertEqual(self.tell((("draw", "a", (3, 0, 1)),)), [(5, 1), (6, 1)] * 3)
        self.assertEqual(self.tell((("draw", "a", (0, 0, 5)),)), [(20, 1), (21, 1)] * 3)
        self.assertEqual(self.tell((("draw", "a", (0, 1, 0)), ("draw", "b", (0, 9)))), [(11, 1)] * 6)

    def test_gain(self):
        self.assertEqual(self.tell((("gain", 4),)), [(4, 1), (5, 1), (14, 1), (15, 1), (24, 1), (25, 1)])
        self.assertEqual(self.tell((("gain", "a"),)), [(0, 1), (1, 1), (11, 1), (12, 1), (22, 1), (23, 1)])
        for block in ((("gain", 4),), (("gain", "a"),), (("gain", "b"), PASS, ("gain", 999999999))):
            self.assertEqual(fold_back(self.store, block, self.aim, False), self.aim)
        self.assertEqual(self.tell((("gain", 0),)), self.tell(()))

    def test_gain_counts_as_the_boxes_are_then(self):
        self.assertEqual(self.tell((("gain", "a"), ("set", "a", (2,)), ("gain", "a"))),
                         [(22, 1), (23, 1), (23, 1), (24, 1), (24, 1), (25, 1)])
        self.assertEqual(self.tell((HALF_B, ("gain", "b"))), [(1, 1), (1, 1), (11, 1), (11, 1), (21, 1), (21, 1)])

    def test_look(self):
        self.assertEqual(self.tell((("look", ("a", "=", 1)),)), [(0, 1), (0, 1), (10, 1), (11, 1), (0, 1), (0, 1)])
        self.assertEqual(self.tell((("look", ("b", "<", "a")),)), [(0, 1), (0, 1), (10, 1), (0, 1), (20, 1), (21, 1)])
        self.assertEqual(self.tell((("look", ("a", "#", "b")),)), [(0, 1), (1, 1), (10, 1), (0, 1), (20, 1), (21, 1)])
        self.assertEqual(self.tell((("look", ALWAYS),)), self.tell(()))
        self.assertEqual(self.tell((("look", NEVER),)), [(0, 1)] * 6)

    def test_a_lost_run_keeps_what_it_gained_ahead(self):
        self.assertEqual(self.tell((("gain", 3), ("look", NEVER), ("gain", 9))), [(3, 1)] * 6)
        self.assertEqual(self.tell((("gain", 3), ("look", NEVER), ("gain", 9)), False), [(0, 1)] * 6)

    def test_if(self):
        block = (("if", ("a", "<", "b"), (("set", "a", (2,)),), (("gain", 100),)),)
        self.assertEqual(self.tell(block), [(100, 1), (21, 1), (110, 1), (111, 1), (120, 1), (121, 1)])
        self.assertEqual(self.tell(block, False), [(0, 1), (21, 1), (10, 1), (11, 1), (20, 1), (21, 1)])
        self.assertEqual(self.tell((("if", (1, "=", "b"), (), (("look", NEVER),)),)),
                         [(0, 1), (1, 1), (0, 1), (11, 1), (0, 1), (21, 1)])
        self.assertEqual(self.tell((("if", ALWAYS, (("gain", 1),), (("gain", 2),)),)), self.tell((("gain", 1),)))
        self.assertEqual(self.tell((("if", NEVER, (("gain", 1),), (("gain", 2),)),)), self.tell((("gain", 2),)))

    def test_every_test(self):
        for one in ("a", "b", 0, 1, 999999999):
            for sign in ("=", "<", "#"):
                for other in ("a", "b", 1, 2):
                    test = (one, sign, other)
                    self.everywhere(AB, (("look", test),))
                    self.everywhere(AB, (("if", test, (("set", "b", ("a",)),), (("gain", "b"), HALF_B))),)

    def test_times(self):
        turn = ("set", "a", ("a", "+", 1))
        self.assertEqual(fold_back(self.store, (("times", 0, (("gain", 5), turn)),), self.aim, True), self.aim)
        self.assertEqual(fold_back(self.store, (("times", 60, ()),), self.aim, True), self.aim)
        for number in (1, 2, 3, 30):
            self.assertEqual(self.tell((("times", number, (turn,)),)), self.tell((turn,) * number))
            gained = (("gain", "a"), turn)
            self.assertEqual(self.tell((("times", number, gained),)), self.tell(gained * number))
        within = (("times", 3, (("times", 2, (turn,)), ("gain", "a"))),)
        self.assertEqual(self.tell(within), self.tell((turn, turn, ("gain", "a")) * 3))

    def test_hand(self):
        block = (("hand", ((("set", "a", (1,)),), ())),)
        self.assertEqual(self.tell(block), [(10, 1), (11, 1), (10, 1), (11, 1), (20, 1), (21, 1)])
        self.assertEqual(self.tell((("hand", ((), ())),)), self.tell(()))
        for place in range(8):
            blocks = [(("set", "a", (0,)),)] * 8
            blocks[place] = (("gain", 5),)
            self.assertEqual(self.tell((("hand", tuple(blocks)),)), self.tell((("gain", 5),)))
        eight = tuple((("look", ("a", "=", number % 3)), ("gain", number)) for number in range(8))
        self.assertEqual(self.tell((("hand", eight),)),
                         [pair_of(Fraction(10 * a + b + (6, 7, 5)[a])) for a, b in states_of(AB)])

    def test_hand_below_nought(self):
        low = node_of(self.store, {(a, b): (-10 * a - b - 1, 1) for a, b in states_of(AB)})
        node = fold_back(self.store, (("hand", ((("set", "a", (1,)),), (("set", "b", (0,)),))),), low, True)
        self.assertEqual([self.store.value_at(node, state) for state in states_of(AB)],
                         [(-1, 1), (-1, 1), (-11, 1), (-11, 1), (-11, 1), (-12, 1)])
        lost = fold_back(self.store, (("hand", ((), (("look", ("a", "=", 0)),))),), low, False)
        self.assertEqual([self.store.value_at(lost, state) for state in states_of(AB)],
                         [(-1, 1), (-2, 1), (0, 1), (0, 1), (0, 1), (0, 1)])

    def test_the_hand_chooses_ahead_of_a_draw(self):
        bets = ("hand", ((HALF_B,), (("set", "b", ("b",)),)))
        self.assertEqual(self.tell((bets,)), [(1, 2), (1, 1), (21, 2), (11, 1), (41, 2), (21, 1)])
        self.assertEqual(self.tell((HALF_B, bets)), [(3, 4), (3, 4), (43, 4), (43, 4), (83, 4), (83, 4)])


class BlocksTest(FoldTest):
    def test_each_deed_at_every_place(self):
        for deed in DEEDS:
            for block in places_for(deed):
                if is_bounded(block):
                    self.everywhere(AB, block)

    def test_each_deed_behind_and_ahead_of_each_other(self):
        for one in DEEDS:
            for other in DEEDS:
                self.everywhere(AB, (one, other))

    def test_twelve_deeds_within_one_another(self):
        for kinds in (("if",), ("else",), ("times",), ("hand",), ("if", "times", "hand", "else", "last")):
            self.everywhere(AB, nested(12, kinds, (("draw", "a", (1, 2, 3)), ("gain", "a"))))

    def test_any_programs(self):
        rng = Random(31)
        seen = 0
        for turn in range(300):
            boxes, block = some_program(rng, KINDS)
            if is_program((boxes, block)):
                seen += 1
                store = Store(boxes)
                for counted in (True, False):
                    self.hold(store, block, some_table(rng, boxes, VALUES), counted)
        self.assertGreater(seen, 150)

    def test_great_aims(self):
        rng = Random(32)
        values = [pair_of(Fraction(rng.choice((1, -1)) * figures(60, rng), figures(60, rng))) for turn in range(6)]
        store = Store(AB)
        for block in ((("draw", "a", (999999999, 1, 999999998)), ("gain", "b")), DEEDS):
            self.hold(store, block, some_table(rng, AB, values), True)

    def test_boxes_of_size_one_and_no_boxes(self):
        thin = (("a", 1), ("b", 2), ("c", 1), ("d", 3), ("e", 1))
        self.everywhere(thin, (("draw", "a", (4,)), ("set", "d", ("a", "-", 1)), ("set", "e", (7,)), ("gain", "e")))
        self.everywhere((), (("gain", 3), ("hand", ((("gain", 1),), (("look", (1, "<", 0)),)))))

    def test_a_thousand_states(self):
        for boxes in ((("a", 5), ("b", 8), ("c", 5), ("d", 5)), tuple((name, 2) for name in "abcdefghi")):
            store = Store(boxes)
            table = {state: (number, 7) for number, state in enumerate(states_of(boxes))}
            table = {state: pair_of(Fraction(*value)) for state, value in table.items()}
            size = boxes[0][1]
            block = (
                ("draw", "a", tuple(range(1, size + 1))), ("set", "b", ("b", "+", "a")), ("gain", "b"),
                ("if", ("c", "<", "d"), (("set", "d", ("c", "*", "b")),), (("look", ("a", "#", "b")),)),
                ("hand", ((("set", "a", ("d",)),), (("gain", 2),))),
            )
            self.hold(store, block, table, True)
            self.hold(store, block, table, False)


class RefusalTest(FoldTest):
    def test_no_bound_where_a_while_stands(self):
        store = Store(AB)
        aim = store.marked(("a", "<", "b"))
        asked = fold_back(store, DEEDS, aim, True)
        for loop in (("while", NEVER, ()), ("while", ("a", "=", 0), (PASS,))):
            deep = nested(11, ("never", "if", "hand"), (loop,))
            for block in places_for(loop) + [deep, DEEDS + (loop,), (loop,) + DEEDS]:
                self.assertIs(is_program((AB, block)), True)
                for counted in (True, False):
                    with self.assertRaises(NoBound):
                        fold_back(store, block, aim, counted)
        self.assertEqual(fold_back(store, DEEDS, aim, True), asked)
        self.assertEqual(store.marked(("a", "<", "b")), aim)

    def test_what_was_asked_before_changes_no_answer(self):
        store = Store(AB)
        aim = store.point((1, 1))
        told = table_of(store, fold_back(store, DEEDS, aim, True))
        for deed in DEEDS:
            fold_back(store, (deed,) * 2, store.leaf((1, 3)), False)
        self.assertEqual(table_of(store, fold_back(store, DEEDS, aim, True)), told)
        other = Store(AB)
        self.assertEqual(table_of(other, fold_back(other, DEEDS, other.point((1, 1)), True)), told)


class TreesTest(unittest.TestCase):
    """The shared graph tells what the tree of runs tells."""

    def shares(self, program, start):
        store = Store(program[0])
        ends = []
        for state in states_of(program[0]):
            share = store.value_at(fold_back(store, program[1], store.point(state), False), start)
            if share != (0, 1):
                ends.append((state, share))
        kept = store.value_at(fold_back(store, program[1], store.leaf((1, 1)), False), start)
        return ends, pair_of(1 - Fraction(*kept))

    def best(self, program, start):
        store = Store(program[0])
        return store.value_at(fold_back(store, program[1], store.leaf((0, 1)), True), start)

    def test_any_programs_without_hands(self):
        rng = Random(33)
        seen = 0
        for turn in range(250):
            program = some_program(rng, ("pass", "set", "draw", "draw", "gain", "look", "if", "times"))
            if not is_program(program):
                continue
            start = rng.choice(states_of(program[0]))
            try:
                tree = tree_of(program, start)
            except TooMany:
                continue
            seen += 1
            self.assertEqual(self.shares(program, start), ends_of(tree))
            self.assertEqual(self.best(program, start), best_of(tree))
        self.assertGreater(seen, 100)

    def test_any_programs_with_hands(self):
        rng = Random(34)
        seen = 0
        for turn in range(500):
            program = some_program(rng, ("set", "draw", "draw", "gain", "gain", "look", "if", "times", "hand", "hand"))
            if not is_program(program):
                continue
            start = rng.choice(states_of(program[0]))
            try:
                tree = tree_of(program, start)
            except TooMany:
                continue
            seen += 1
            self.assertEqual(self.best(program, start), best_of(tree))
        self.assertGreater(seen, 150)

    def test_so_many_runs_that_none_could_go_through_them(self):
        # 33 halves added up in a box of size 9: binomials by their remainders.
        program = ((("a", 2), ("b", 9)), (("times", 33, (HALVES, ("set", "b", ("b", "+", "a")))),))
        self.assertIs(is_program(program), True)
        store = Store(program[0])
        for number in range(9):
            asked = Fraction(sum(comb(33, k) for k in range(34) if k % 9 == number), 2 ** 33)
            node = fold_back(store, program[1], store.marked(("b", "=", number)), False)
            self.assertEqual(store.value_at(node, (0, 0)), pair_of(asked))
        self.assertEqual(self.best((COIN, (("times", 33, (HALVES, ("gain", "a"))),)), (0,)), (33, 2))
        self.assertEqual(self.best(((("a", 9),), (("draw", "a", (1,) * 9),) * 100), (0,)), (0, 1))

    def test_so_many_choices_that_none_could_go_through_them(self):
        # Each turn the hand stays or draws anew: the best of n throws of a die of size 6.
        turns = 16
        throw = ("draw", "a", (1,) * 6)
        block = (throw, ("times", turns, (("hand", ((), (throw,))), PASS)), ("gain", "a"))
        program = ((("a", 6),), block)
        self.assertIs(is_program(program), True)
        best = Fraction(5, 2)
        for turn in range(turns):
            best = sum(max(Fraction(number), best) for number in range(6)) / 6
        self.assertEqual(self.best(program, start_of(program[0])), pair_of(best))


if __name__ == "__main__":
    unittest.main()
