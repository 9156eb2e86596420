import unittest
from fractions import Fraction
from random import Random

from checks import figures, is_fraction, is_whole, pair_of, parameters_of
from lots import runs
from lots.boxes import states_of
from lots.errors import HandLeft, TooMany
from lots.programs import is_program
from lots.runs import best_of, ends_of, runs_of
from lots.trees import tree_of
from oracle import leaves_of
from samples import some_program


def end(state, gain):
    return ("end", state, gain)


def parted(*parts):
    """A draw of parts told as pairs (weight, tree)."""
    whole = sum(weight for weight, tree in parts)
    return ("draw", tuple((pair_of(Fraction(weight, whole)), tree) for weight, tree in parts))


def some_tree(rng, depth, kinds):
    kind = rng.choice(kinds) if depth > 0 else rng.choice(("end", "lost"))
    if kind == "end":
        return end((rng.randrange(2), rng.randrange(3)), rng.choice((0, 1, 7, 10 ** 12)))
    if kind == "lost":
        return ("lost", rng.choice((0, 2, 5)))
    if kind == "draw":
        count = rng.randrange(1, 4)
        return parted(*[(rng.randrange(1, 9), some_tree(rng, depth - 1, kinds)) for turn in range(count)])
    return ("hand", tuple(some_tree(rng, depth - 1, kinds) for turn in range(rng.randrange(2, 5))))


def walked(tree, marks):
    """The leaf that the marks lead to, and the product of the shares on the way."""
    share = Fraction(1)
    for mark in marks:
        if tree[0] == "draw":
            share = share * Fraction(*tree[1][mark][0])
            tree = tree[1][mark][1]
        else:
            tree = tree[1][mark]
    return tree, share


def best_by_hand(tree):
    if tree[0] in ("end", "lost"):
        return Fraction(tree[-1])
    if tree[0] == "draw":
        return sum(Fraction(*share) * best_by_hand(part) for share, part in tree[1])
    return max(best_by_hand(part) for part in tree[1])


def chain(kind, depth, core):
    """A tree in which so many draws or hands stand on one way."""
    tree = core
    for step in range(depth):
        tree = parted((1, ("lost", 0)), (1, tree)) if kind == "draw" else ("hand", (("lost", 0), tree))
    return tree


class InterfaceTest(unittest.TestCase):
    def test_names_and_arguments(self):
        for name in ("runs_of", "ends_of", "best_of"):
            self.assertEqual(parameters_of(getattr(runs, name)), ["tree"])


class RunsTest(unittest.TestCase):
    def hold(self, tree):
        told = runs_of(tree)
        self.assertIs(type(told), list)
        self.assertEqual(len(told), leaves_of(tree))
        marked = [run[0] for run in told]
        self.assertEqual(marked, sorted(set(marked)))
        for run in told:
            self.assertIs(type(run), tuple)
            marks, share, state, gain = run
            self.assertIs(type(marks), tuple)
            self.assertTrue(all(is_whole(mark) for mark in marks))
            self.assertTrue(is_fraction(share))
            leaf, product = walked(tree, marks)
            self.assertEqual(Fraction(*share), product)
            self.assertTrue(is_whole(gain))
            self.assertEqual((state, gain), leaf[1:] if leaf[0] == "end" else (None, leaf[1]))
        return told

    def test_one_leaf_alone(self):
        self.assertEqual(self.hold(end((1, 2), 5)), [((), (1, 1), (1, 2), 5)])
        self.assertEqual(self.hold(end((), 0)), [((), (1, 1), (), 0)])
        self.assertEqual(self.hold(("lost", 3)), [((), (1, 1), None, 3)])

    def test_draws(self):
        tree = parted((1, end((0,), 1)), (3, parted((2, ("lost", 4)), (1, end((0,), 2)))))
        self.assertEqual(
            self.hold(tree),
            [((0,), (1, 4), (0,), 1), ((1, 0), (1, 2), None, 4), ((1, 1), (1, 4), (0,), 2)],
        )
        self.assertEqual(self.hold(parted((1, end((3,), 0)))), [((0,), (1, 1), (3,), 0)])

    def test_hands_take_nothing_off_the_share(self):
        tree = ("hand", (end((0,), 1), ("hand", (("lost", 0), end((1,), 2), end((2,), 3)))))
        self.assertEqual(
            self.hold(tree),
            [((0,), (1, 1), (0,), 1), ((1, 0), (1, 1), None, 0), ((1, 1), (1, 1), (1,), 2),
             ((1, 2), (1, 1), (2,), 3)],
        )

    def test_draws_and_hands(self):
        tree = parted((1, ("hand", (end((0,), 0), end((1,), 1)))), (2, end((2,), 2)))
        self.assertEqual(
            self.hold(tree),
            [((0, 0), (1, 3), (0,), 0), ((0, 1), (1, 3), (1,), 1), ((1,), (2, 3), (2,), 2)],
        )
        tree = ("hand", (parted((1, end((0,), 0)), (1, end((1,), 0))), ("lost", 0)))
        self.assertEqual([run[1] for run in self.hold(tree)], [(1, 2), (1, 2), (1, 1)])

    def test_more_than_ten_parts_are_sorted_as_numbers(self):
        tree = parted(*[(1, end((number,), number)) for number in range(400)])
        self.assertEqual([run[0] for run in self.hold(tree)], [(number,) for number in range(400)])

    def test_any_trees(self):
        rng = Random(15)
        for turn in range(200):
            self.hold(some_tree(rng, 4, ("end", "lost", "draw", "draw", "hand")))

    def test_trees_of_programs(self):
        rng = Random(16)
        seen = 0
        for turn in range(300):
            program = some_program(rng, ("set", "draw", "gain", "look", "if", "times", "hand"))
            if is_program(program):
                try:
                    tree = tree_of(program, rng.choice(states_of(program[0])))
                except TooMany:
                    continue
                self.hold(tree)
                self.assertEqual(Fraction(*best_of(tree)), best_by_hand(tree))
                seen += 1
        self.assertGreater(seen, 150)

    def test_great_shares_and_gains(self):
        rng = Random(17)
        tree = end((0,), figures(60, rng))
        for step in range(20):
            tree = parted((figures(59, rng), tree), (figures(59, rng), ("lost", figures(60, rng))))
        self.hold(tree)
        self.assertEqual(Fraction(*best_of(tree)), best_by_hand(tree))

    def test_a_hundred_on_a_way(self):
        for kind in ("draw", "hand"):
            told = self.hold(chain(kind, 100, end((5,), 1)))
            self.assertEqual(len(told), 101)
            self.assertEqual(told[-1], ((1,) * 100, (1, 2 ** 100) if kind == "draw" else (1, 1), (5,), 1))
        alone = end((1,), 0)
        for step in range(100):
            alone = ("draw", (((1, 1), alone),))
        self.assertEqual(self.hold(alone), [((0,) * 100, (1, 1), (1,), 0)])

    def test_a_told_list_is_the_askers_own(self):
        tree = parted((1, end((0,), 1)), (3, ("lost", 2)))
        told = runs_of(tree)
        kept = list(told)
        told.reverse()
        told.append("more")
        self.assertEqual(runs_of(tree), kept)


class EndsTest(unittest.TestCase):
    def hold(self, tree):
        told = ends_of(tree)
        self.assertIs(type(told), tuple)
        ends, lost = told
        self.assertIs(type(ends), list)
        self.assertTrue(all(type(one) is tuple and is_fraction(one[1]) for one in ends))
        self.assertTrue(is_fraction(lost))
        sums = {None: Fraction(0)}
        for marks, share, state, gain in runs_of(tree):
            sums[state] = sums.get(state, 0) + Fraction(*share)
        self.assertEqual(Fraction(*lost), sums.pop(None))
        self.assertEqual([(state, Fraction(*share)) for state, share in ends], sorted(sums.items()))
        self.assertEqual(Fraction(*lost) + sum(Fraction(*share) for state, share in ends), 1)
        return told

    def test_one_leaf_alone(self):
        self.assertEqual(self.hold(end((1, 2), 5)), ([((1, 2), (1, 1))], (0, 1)))
        self.assertEqual(self.hold(end((), 5)), ([((), (1, 1))], (0, 1)))
        self.assertEqual(self.hold(("lost", 5)), ([], (1, 1)))

    def test_shares_of_one_state_are_added_up(self):
        tree = parted((1, end((2,), 1)), (2, end((0,), 0)), (3, end((2,), 9)), (6, ("lost", 1)))
        self.assertEqual(self.hold(tree), ([((0,), (1, 6)), ((2,), (1, 3))], (1, 2)))

    def test_sorted_by_the_states(self):
        states = [(2, 0), (0, 10), (10, 1), (0, 2), (2, 0)]
        told = self.hold(parted(*[(1, end(state, 0)) for state in states]))
        self.assertEqual([state for state, share in told[0]], [(0, 2), (0, 10), (2, 0), (10, 1)])
        self.assertEqual(told[0][2], ((2, 0), (2, 5)))

    def test_all_lost(self):
        self.assertEqual(self.hold(parted((1, ("lost", 1)), (2, parted((1, ("lost", 0)))))), ([], (1, 1)))

    def test_any_trees(self):
        rng = Random(18)
        for turn in range(200):
            self.hold(some_tree(rng, 4, ("end", "lost", "draw", "draw", "draw")))

    def test_a_hundred_on_a_way(self):
        told = self.hold(chain("draw", 100, end((1,), 0)))
        self.assertEqual(told, ([((1,), (1, 2 ** 100))], (2 ** 100 - 1, 2 ** 100)))

    def test_a_hand_at_any_place(self):
        hand = ("hand", (end((0,), 0), end((0,), 0)))
        for tree in (
            hand,
            parted((1, hand)),
            parted((1, end((0,), 0)), (1, hand)),
            parted((1, hand), (1, end((0,), 0))),
            parted((1, end((0,), 0)), (1, parted((1, ("lost", 0)), (1, hand), (1, end((0,), 0))))),
            ("hand", (("lost", 0), ("lost", 0))),
            ("hand", (("lost", 0), hand)),
            chain("draw", 99, hand),
        ):
            with self.assertRaises(HandLeft):
                ends_of(tree)

    def test_a_told_list_is_the_askers_own(self):
        tree = parted((1, end((0,), 1)), (3, end((1,), 2)))
        told = ends_of(tree)
        kept = list(told[0])
        told[0].clear()
        self.assertEqual(ends_of(tree), (kept, (0, 1)))


class BestTest(unittest.TestCase):
    def hold(self, tree):
        told = best_of(tree)
        self.assertTrue(is_fraction(told))
        self.assertEqual(Fraction(*told), best_by_hand(tree))
        return told

    def test_leaves(self):
        self.assertEqual(self.hold(end((0,), 7)), (7, 1))
        self.assertEqual(self.hold(end((), 0)), (0, 1))
        self.assertEqual(self.hold(("lost", 3)), (3, 1))

    def test_draws(self):
        self.assertEqual(self.hold(parted((1, end((0,), 1)), (3, end((1,), 2)))), (7, 4))
        self.assertEqual(self.hold(parted((1, end((0,), 1)), (1, end((1,), 3)))), (2, 1))
        self.assertEqual(self.hold(parted((5, end((0,), 9)))), (9, 1))

    def test_what_a_lost_one_gained_counts(self):
        self.assertEqual(self.hold(parted((1, ("lost", 4)), (1, end((1,), 3)))), (7, 2))
        self.assertEqual(self.hold(("hand", (("lost", 4), end((1,), 3)))), (4, 1))

    def test_hands(self):
        for place in range(8):
            gains = [3] * 8
            gains[place] = 4
            self.assertEqual(self.hold(("hand", tuple(end((0,), gain) for gain in gains))), (4, 1))
        self.assertEqual(self.hold(("hand", (end((0,), 0), ("lost", 0)))), (0, 1))
        near = ("hand", (parted((1, end((0,), 0)), (2, end((0,), 1))), parted((2, end((0,), 0)), (5, end((0,), 1)))))
        self.assertEqual(self.hold(near), (5, 7))

    def test_draws_and_hands(self):
        tree = parted((1, ("hand", (end((0,), 1), end((0,), 6)))), (2, ("hand", (end((0,), 2), ("lost", 1)))))
        self.assertEqual(self.hold(tree), (10, 3))
        tree = ("hand", (parted((1, end((0,), 0)), (1, end((0,), 9))), end((0,), 4)))
        self.assertEqual(self.hold(tree), (9, 2))

    def test_any_trees(self):
        rng = Random(19)
        for turn in range(200):
            self.hold(some_tree(rng, 4, ("end", "lost", "draw", "hand", "hand")))

    def test_a_hundred_on_a_way(self):
        self.assertEqual(self.hold(chain("draw", 100, end((1,), 3))), (3, 2 ** 100))
        self.assertEqual(self.hold(chain("hand", 100, end((1,), 3))), (3, 1))


if __name__ == "__main__":
    unittest.main()
