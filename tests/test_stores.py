import unittest
from fractions import Fraction
from itertools import product
from random import Random

from checks import figures, is_fraction, is_whole, pair_of, parameters_of
from lots.boxes import states_of
from lots.stores import Store
from samples import TEST_SIGNS
from tables import node_of, some_table

BOXES = {
    "none": (),
    "one": (("a", 3),),
    "two": (("a", 3), ("b", 2)),
    "thin": (("a", 1), ("b", 2), ("c", 1), ("d", 3), ("e", 1)),
    "ones": (("a", 1), ("b", 1)),
    "near": (("ab", 2), ("a", 3), ("abc", 2)),
    "nine": tuple((name, 2) for name in "abcdefghi"),
    "full": (("a", 5), ("b", 8), ("c", 5), ("d", 5)),
}
SMALL = ("none", "one", "two", "thin", "ones", "near")
VALUES = [(0, 1), (1, 1), (-1, 1), (1, 2), (-2, 3), (5, 1), (10 ** 59, 1), (1, 10 ** 59), (-(10 ** 59), 7)]


class StoreTest(unittest.TestCase):
    def setUp(self):
        self.nodes = {}

    def hold(self, store, node, table):
        """The node tells the table, is rightly built, and is the one node of that function in this store."""
        self.assertTrue(is_whole(node))
        for state, value in table.items():
            told = store.value_at(node, state)
            self.assertTrue(is_fraction(told))
            self.assertEqual(told, value)
        self.well_built(store, node)
        known = self.nodes.setdefault(id(store), (store, {}, {}))
        key = tuple(table[state] for state in states_of(store.boxes))
        self.assertEqual(known[1].setdefault(key, node), node)
        self.assertEqual(known[2].setdefault(node, key), key)

    def well_built(self, store, node):
        below = store.nodes_below(node)
        self.assertIs(type(below), list)
        self.assertEqual(below, sorted(set(below)))
        come_to = {node}
        waiting = [node]
        while waiting:
            here = waiting.pop()
            fact = store.told(here)
            self.assertIs(type(fact), tuple)
            if fact[0] == "leaf":
                self.assertEqual(len(fact), 2)
                self.assertTrue(is_fraction(fact[1]))
                continue
            word, level, kids = fact
            self.assertEqual(word, "fork")
            self.assertTrue(is_whole(level))
            self.assertIs(type(kids), tuple)
            self.assertEqual(len(kids), store.boxes[level][1])
            self.assertGreater(len(set(kids)), 1)
            for kid in kids:
                self.assertTrue(is_whole(kid))
                below_it = store.told(kid)
                self.assertTrue(below_it[0] == "leaf" or below_it[1] > level)
                if kid not in come_to:
                    come_to.add(kid)
                    waiting.append(kid)
        self.assertEqual(below, sorted(come_to))


class BuiltTest(StoreTest):
    def test_names_and_arguments(self):
        asked = {
            "leaf": ["self", "one"], "fork": ["self", "level", "kids"], "told": ["self", "node"],
            "value_at": ["self", "node", "state"], "added": ["self", "one", "other"],
            "multiplied": ["self", "one", "other"], "higher": ["self", "one", "other"],
            "fixed": ["self", "node", "level", "number"], "marked": ["self", "test"], "point": ["self", "state"],
            "nodes_below": ["self", "node"],
        }
        self.assertEqual(parameters_of(Store), ["boxes"])
        for name, arguments in asked.items():
            self.assertEqual(parameters_of(getattr(Store, name)), arguments)

    def test_the_field_boxes_is_the_tuple_handed_in(self):
        for boxes in BOXES.values():
            self.assertIs(Store(boxes).boxes, boxes)

    def test_leaf(self):
        for boxes in BOXES.values():
            store = Store(boxes)
            nodes = [store.leaf(value) for value in VALUES]
            self.assertEqual(len(set(nodes)), len(VALUES))
            for node, value in zip(nodes, VALUES):
                self.assertEqual(store.told(node), ("leaf", value))
                self.assertEqual(store.leaf(pair_of(Fraction(*value))), node)
                self.assertEqual(store.nodes_below(node), [node])
                self.hold(store, node, {state: value for state in states_of(boxes)})

    def test_fork(self):
        store = Store(BOXES["two"])
        half, third, nought = store.leaf((1, 2)), store.leaf((1, 3)), store.leaf((0, 1))
        low = store.fork(1, [half, third])
        self.assertEqual(store.told(low), ("fork", 1, (half, third)))
        top = store.fork(0, [low, nought, half])
        self.assertEqual(store.told(top), ("fork", 0, (low, nought, half)))
        self.assertEqual(store.nodes_below(top), sorted([top, low, nought, half, third]))
        self.assertEqual(store.nodes_below(low), sorted([low, half, third]))
        self.hold(store, top, {
            (0, 0): (1, 2), (0, 1): (1, 3), (1, 0): (0, 1), (1, 1): (0, 1), (2, 0): (1, 2), (2, 1): (1, 2),
        })
        self.assertEqual(store.fork(0, [low, nought, half]), top)
        self.assertNotEqual(store.fork(0, [nought, low, half]), top)
        self.assertNotEqual(store.fork(1, [third, half]), low)

    def test_fork_of_the_same_kids_is_that_kid(self):
        store = Store(BOXES["two"])
        half = store.leaf((1, 2))
        low = store.fork(1, [half, store.leaf((0, 1))])
        self.assertEqual(store.fork(1, [half, half]), half)
        self.assertEqual(store.fork(0, [half, half, half]), half)
        self.assertEqual(store.fork(0, [low, low, low]), low)
        for kids in ([low, low, half], [half, low, low], [low, half, low]):
            self.assertEqual(store.told(store.fork(0, kids)), ("fork", 0, tuple(kids)))

    def test_a_box_of_size_one_has_no_fork(self):
        store = Store(BOXES["thin"])
        one = store.leaf((1, 1))
        self.assertEqual(store.fork(0, [one]), one)
        middle = store.fork(3, [one, one, store.leaf((0, 1))])
        self.assertEqual(store.fork(2, [middle]), middle)
        self.assertEqual(store.fork(0, [middle]), middle)

    def test_the_list_handed_in_stays_and_may_change(self):
        store = Store(BOXES["one"])
        leaves = [store.leaf((number, 1)) for number in range(3)]
        kids = list(leaves)
        node = store.fork(0, kids)
        self.assertEqual(kids, leaves)
        kids.reverse()
        kids.append(7)
        self.assertEqual(store.told(node), ("fork", 0, tuple(leaves)))
        self.assertEqual(store.value_at(node, (2,)), (2, 1))
        self.assertEqual(store.fork(0, leaves), node)

    def test_a_told_list_is_the_askers_own(self):
        store = Store(BOXES["two"])
        node = store.marked(("a", "<", "b"))
        told = store.nodes_below(node)
        kept = list(told)
        told.clear()
        self.assertEqual(store.nodes_below(node), kept)

    def test_any_functions_by_forks(self):
        rng = Random(20)
        for name in BOXES:
            store = Store(BOXES[name])
            for turn in range(20 if name in SMALL else 3):
                table = some_table(rng, store.boxes, VALUES)
                self.hold(store, node_of(store, table), table)

    def test_two_stores_do_not_mix(self):
        one, other = Store(BOXES["two"]), Store(BOXES["near"])
        first = one.leaf((1, 2))
        for number in range(20):
            other.leaf((number, 1))
        second = one.leaf((1, 3))
        third = other.leaf((1, 3))
        self.assertEqual(one.told(first), ("leaf", (1, 2)))
        self.assertEqual(one.told(second), ("leaf", (1, 3)))
        self.assertEqual(other.told(third), ("leaf", (1, 3)))
        again = Store(BOXES["two"])
        node = again.marked(("a", "=", 1))
        self.assertEqual(again.nodes_below(node), sorted([node, again.leaf((0, 1)), again.leaf((1, 1))]))
        self.assertEqual(one.nodes_below(first), [first])


class JoinedTest(StoreTest):
    def joined(self, store, left, right):
        """Sum, product and the greater one of two functions, each held against what it tells at every state."""
        one, other = node_of(store, left), node_of(store, right)
        self.hold(store, store.added(one, other),
                  {state: pair_of(Fraction(*left[state]) + Fraction(*right[state])) for state in left})
        self.hold(store, store.multiplied(one, other),
                  {state: pair_of(Fraction(*left[state]) * Fraction(*right[state])) for state in left})
        self.hold(store, store.higher(one, other),
                  {state: pair_of(max(Fraction(*left[state]), Fraction(*right[state]))) for state in left})

    def test_leaves(self):
        for name in SMALL:
            store = Store(BOXES[name])
            for one in VALUES:
                for other in VALUES:
                    everywhere = states_of(store.boxes)
                    self.joined(store, {state: one for state in everywhere}, {state: other for state in everywhere})

    def test_told_ones(self):
        store = Store(BOXES["two"])
        a = store.fork(0, [store.leaf((number, 1)) for number in range(3)])
        b = store.fork(1, [store.leaf((number, 1)) for number in range(2)])
        self.assertEqual(store.value_at(store.added(a, b), (2, 1)), (3, 1))
        self.assertEqual(store.value_at(store.multiplied(a, b), (2, 0)), (0, 1))
        self.assertEqual(store.value_at(store.higher(a, b), (0, 1)), (1, 1))
        self.assertEqual(store.added(a, b), store.added(b, a))
        self.assertEqual(store.multiplied(a, store.leaf((0, 1))), store.leaf((0, 1)))
        self.assertEqual(store.multiplied(a, store.leaf((1, 1))), a)
        self.assertEqual(store.added(a, store.leaf((0, 1))), a)
        self.assertEqual(store.added(a, store.multiplied(a, store.leaf((-1, 1)))), store.leaf((0, 1)))
        self.assertEqual(store.higher(a, a), a)
        self.assertEqual(store.higher(a, store.leaf((2, 1))), store.leaf((2, 1)))
        self.assertEqual(store.higher(store.leaf((-1, 1)), a), a)

    def test_negative_and_near_ones(self):
        store = Store(BOXES["one"])
        left = {(0,): (-1, 2), (1,): (-2, 3), (2,): (10 ** 59, 10 ** 59 + 1)}
        right = {(0,): (-2, 3), (1,): (-1, 2), (2,): (10 ** 59 + 1, 10 ** 59 + 2)}
        self.joined(store, left, right)
        self.joined(store, right, left)

    def test_any_functions(self):
        rng = Random(21)
        for name in BOXES:
            store = Store(BOXES[name])
            for turn in range(25 if name in SMALL else 2):
                values = rng.choice((VALUES, VALUES[:3], [(0, 1), (1, 1)]))
                self.joined(store, some_table(rng, store.boxes, values), some_table(rng, store.boxes, values))

    def test_great_fractions(self):
        rng = Random(22)
        values = [pair_of(Fraction(rng.choice((1, -1)) * figures(60, rng), figures(60, rng))) for turn in range(6)]
        store = Store(BOXES["near"])
        for turn in range(10):
            self.joined(store, some_table(rng, store.boxes, values), some_table(rng, store.boxes, values))

    def test_one_function_one_node_however_it_came_about(self):
        rng = Random(23)
        for turn in range(30):
            store = Store(BOXES["near"])
            tables = [some_table(rng, store.boxes, VALUES[:5]) for count in range(3)]
            one, two, three = [node_of(store, table) for table in tables]
            self.assertEqual(store.added(store.added(one, two), three), store.added(one, store.added(two, three)))
            self.assertEqual(store.multiplied(store.added(one, two), three),
                             store.added(store.multiplied(one, three), store.multiplied(two, three)))
            self.assertEqual(store.higher(store.higher(three, two), one), store.higher(one, store.higher(two, three)))

    def test_many_states(self):
        store = Store(BOXES["full"])
        left = {state: (sum(state), 1 + state[0]) for state in states_of(store.boxes)}
        left = {state: pair_of(Fraction(*value)) for state, value in left.items()}
        right = {state: (number, 1) for number, state in enumerate(states_of(store.boxes))}
        self.joined(store, left, right)


class FixedTest(StoreTest):
    def test_told_ones(self):
        store = Store(BOXES["two"])
        node = store.marked(("a", "=", "b"))
        self.assertEqual(store.fixed(node, 0, 2), store.leaf((0, 1)))
        self.assertEqual(store.fixed(node, 0, 1), store.marked(("b", "=", 1)))
        self.assertEqual(store.fixed(node, 1, 0), store.marked(("a", "=", 0)))
        self.assertEqual(store.fixed(store.fixed(node, 1, 0), 1, 1), store.marked(("a", "=", 0)))
        self.assertEqual(store.fixed(store.leaf((5, 1)), 1, 1), store.leaf((5, 1)))

    def test_any_functions(self):
        rng = Random(24)
        for name in BOXES:
            store = Store(BOXES[name])
            for turn in range(15 if name in SMALL else 1):
                table = some_table(rng, store.boxes, rng.choice((VALUES, VALUES[:2])))
                node = node_of(store, table)
                for level, (box, size) in enumerate(store.boxes):
                    for number in range(size):
                        held = {state: table[state[:level] + (number,) + state[level + 1:]] for state in table}
                        self.hold(store, store.fixed(node, level, number), held)
                self.hold(store, node, table)


class MarkedTest(StoreTest):
    def marks(self, store, test):
        one, sign, other = test
        table = {}
        for state in states_of(store.boxes):
            held = {box[0]: number for box, number in zip(store.boxes, state)}
            left, right = held.get(one, one), held.get(other, other)
            truth = {"=": left == right, "<": left < right, "#": left != right}[sign]
            table[state] = (1, 1) if truth else (0, 1)
        self.hold(store, store.marked(test), table)

    def test_every_test(self):
        for name in SMALL:
            store = Store(BOXES[name])
            names = [box[0] for box in store.boxes]
            for one, sign, other in product(names + [0, 1, 2, 999999999], TEST_SIGNS, names + [0, 1, 3, 999999999]):
                self.marks(store, (one, sign, other))

    def test_many_boxes(self):
        for name in ("nine", "full"):
            store = Store(BOXES[name])
            for test in (("a", "=", "d"), ("d", "<", "a"), ("c", "#", 1), (1, "<", "b"), (0, "=", 0), (0, "=", 1),
                         ("a", "#", "a"), ("b", "=", "b")):
                self.marks(store, test)

    def test_told_ones(self):
        store = Store(BOXES["two"])
        nought, one = store.leaf((0, 1)), store.leaf((1, 1))
        self.assertEqual(store.marked((0, "=", 0)), one)
        self.assertEqual(store.marked((0, "<", 0)), nought)
        self.assertEqual(store.told(store.marked(("a", "=", 1))), ("fork", 0, (nought, one, nought)))
        self.assertEqual(store.told(store.marked(("b", "#", 1))), ("fork", 1, (one, nought)))
        self.assertEqual(store.marked(("b", "<", 9)), one)
        self.assertEqual(store.marked(("a", "#", "b")), store.marked(("b", "#", "a")))


class PointTest(StoreTest):
    def test_every_state(self):
        for name in SMALL + ("nine",):
            store = Store(BOXES[name])
            everywhere = states_of(store.boxes)
            for state in everywhere if name in SMALL else everywhere[::101]:
                table = {other: (1, 1) if other == state else (0, 1) for other in everywhere}
                self.hold(store, store.point(state), table)

    def test_points_come_to_one(self):
        for name in SMALL + ("full",):
            store = Store(BOXES[name])
            whole = store.leaf((0, 1))
            for state in states_of(store.boxes):
                whole = store.added(whole, store.point(state))
            self.assertEqual(whole, store.leaf((1, 1)))

    def test_no_boxes(self):
        store = Store(())
        self.assertEqual(store.point(()), store.leaf((1, 1)))
        self.assertEqual(store.value_at(store.leaf((3, 4)), ()), (3, 4))

    def test_points_by_tests(self):
        store = Store(BOXES["two"])
        node = store.multiplied(store.marked(("a", "=", 2)), store.marked(("b", "=", 1)))
        self.assertEqual(store.point((2, 1)), node)
        self.assertEqual(len(store.nodes_below(node)), 4)


class OrderTest(StoreTest):
    def test_nodes_stand_for_the_same_for_ever(self):
        rng = Random(25)
        store = Store(BOXES["near"])
        asked = []
        for turn in range(60):
            table = some_table(rng, store.boxes, VALUES)
            asked.append((node_of(store, table), table))
            one, other = rng.choice(asked), rng.choice(asked)
            total = {state: pair_of(Fraction(*one[1][state]) + Fraction(*other[1][state])) for state in table}
            asked.append((store.added(one[0], other[0]), total))
            store.marked(("a", rng.choice(TEST_SIGNS), rng.randrange(3)))
        for node, table in asked:
            self.hold(store, node, table)

    def test_the_order_of_asking_changes_no_answer(self):
        rng = Random(26)
        tables = [some_table(rng, BOXES["near"], VALUES) for turn in range(12)]
        told = []
        for order in (list(range(12)), list(range(11, -1, -1))):
            store = Store(BOXES["near"])
            nodes = {}
            for place in order:
                nodes[place] = node_of(store, tables[place])
            sums = {}
            for one, other in product(order, order):
                node = store.higher(store.added(nodes[one], nodes[other]), nodes[other])
                sums[(one, other)] = [store.value_at(node, state) for state in states_of(store.boxes)]
                sums[(one, other, "nodes")] = len(store.nodes_below(node))
            told.append(sums)
        self.assertEqual(told[0], told[1])


if __name__ == "__main__":
    unittest.main()
