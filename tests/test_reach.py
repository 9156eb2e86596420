import unittest
from random import Random

from checks import is_whole, parameters_of
from lots.errors import HandLeft
from lots.nets import net_of
from lots.reach import reached, rings_of, way_to
from netting import (choice, distances, line, reached_by_words, rings_by_words, shuffled, some_net, successors, to,
                     unchanged)
from samples import ALWAYS, PASS

TWO = [[to(1), to(2)], [], [to(2)]]


def nets():
    """Nets of many sorts and sizes, with and without choices of the hand."""
    rng = Random(50)
    for turn in range(60):
        yield some_net(rng, rng.randrange(1, 9), rng.choice((1, 1, 3)), rng.choice((1, 2, 3)), ends=rng.random() / 2)
    for turn in range(4):
        yield some_net(rng, 60, rng.choice((1, 8)), 3, near=rng.choice((2, 3, None)))
    yield some_net(rng, 60, 8, 60)
    yield line(60)
    yield line(60, ring=True)
    yield shuffled(rng, line(60))[0]
    yield net_of(((("a", 2),), (PASS, ("draw", "a", (1, 1))) + (PASS,) * 98), (0,))[0]


class ReachedTest(unittest.TestCase):
    def test_names_and_arguments(self):
        self.assertEqual(parameters_of(reached), ["net", "node"])
        self.assertEqual(parameters_of(way_to), ["net", "node", "goal"])
        self.assertEqual(parameters_of(rings_of), ["net"])

    def test_one_node(self):
        self.assertEqual(reached([[]], 0), [0])
        self.assertEqual(reached([[to(0)]], 0), [0])

    def test_told_ones(self):
        net = [[to(2)], [to(0)], [to(2), to(3, 5)], []]
        self.assertEqual(reached(net, 0), [0, 2, 3])
        self.assertEqual(reached(net, 1), [0, 1, 2, 3])
        self.assertEqual(reached(net, 2), [2, 3])
        self.assertEqual(reached(net, 3), [3])

    def test_every_choice_and_every_part(self):
        net = [[choice(0, (1, 1), (3, 10 ** 59)), to(2), to(2), choice(1, (0, 1), (4, 1))], [], [], [], [], []]
        self.assertEqual(reached(net, 0), [0, 1, 2, 3, 4])

    def test_any_nets(self):
        for net in nets():
            same = unchanged(self, net)
            for node in range(len(net)):
                told = reached(net, node)
                self.assertIs(type(told), list)
                self.assertEqual(told, sorted(reached_by_words(net, node)))
            same()

    def test_a_told_list_is_the_askers_own(self):
        told = reached(TWO, 0)
        told.clear()
        self.assertEqual(reached(TWO, 0), [0, 1, 2])


class WayTest(unittest.TestCase):
    def hold(self, net, node, goal):
        steps = distances(net, node)
        way = way_to(net, node, goal)
        if goal not in steps:
            self.assertIsNone(way)
            return
        self.assertIs(type(way), list)
        self.assertTrue(all(is_whole(one) for one in way))
        self.assertEqual((way[0], way[-1]), (node, goal))
        self.assertEqual(len(way), steps[goal] + 1)
        for one, other in zip(way, way[1:]):
            self.assertIn(other, successors(net, one))

    def test_start_and_goal_the_same(self):
        self.assertEqual(way_to([[]], 0, 0), [0])
        self.assertEqual(way_to([[to(0)]], 0, 0), [0])
        self.assertEqual(way_to(line(4, ring=True), 2, 2), [2])

    def test_told_ones(self):
        net = [[to(1), to(3)], [to(2)], [to(3)], [to(4)], [to(5)], [], [to(0)]]
        self.assertEqual(way_to(net, 0, 4), [0, 3, 4])
        self.assertEqual(way_to(net, 0, 2), [0, 1, 2])
        self.assertEqual(way_to(net, 6, 5), [6, 0, 3, 4, 5])

    def test_a_goal_that_is_not_reached(self):
        net = [[to(1)], [], [to(1)]]
        self.assertIsNone(way_to(net, 0, 2))
        self.assertIsNone(way_to(net, 1, 0))
        self.assertIsNone(way_to(net, 2, 0))

    def test_a_long_way(self):
        self.assertEqual(way_to(line(60), 0, 59), list(range(60)))
        self.assertEqual(way_to(line(200), 3, 199), list(range(3, 200)))
        self.assertIsNone(way_to(line(200), 4, 3))
        self.assertEqual(way_to(line(60, ring=True), 59, 58), [59] + list(range(59)))

    def test_any_nets(self):
        rng = Random(51)
        for net in nets():
            same = unchanged(self, net)
            for turn in range(min(len(net) ** 2, 60)):
                self.hold(net, rng.randrange(len(net)), rng.randrange(len(net)))
            same()


class RingsTest(unittest.TestCase):
    def hold(self, net):
        same = unchanged(self, net)
        told = rings_of(net)
        self.assertIs(type(told), list)
        self.assertTrue(all(type(ring) is list for ring in told))
        self.assertEqual(told, rings_by_words(net))
        same()
        return told

    def test_none(self):
        self.assertEqual(self.hold([]), [])
        self.assertEqual(self.hold([[]]), [])
        self.assertEqual(self.hold(line(5)), [])
        self.assertEqual(self.hold([[choice(1, (0, 1), (1, 1))], []]), [])
        self.assertEqual(self.hold([[to(1)], [choice(0, (0, 99), (2, 1))], []]), [])

    def test_one(self):
        self.assertEqual(self.hold([[to(0)]]), [[0]])
        self.assertEqual(self.hold([[to(1)], [to(0)]]), [[0, 1]])
        self.assertEqual(self.hold(line(60, ring=True)), [list(range(60))])
        self.assertEqual(self.hold([[to(3)], [to(0)], [], [to(1)]]), [[0, 1, 3]])

    def test_several(self):
        net = [[to(5)], [choice(0, (0, 1), (2, 1), (3, 1))], [to(2)], [to(4)], [choice(0, (3, 1), (4, 1))], [to(0)], []]
        self.assertEqual(self.hold(net), [[0, 5], [2], [3, 4]])

    def test_nodes_that_lead_into_rings_are_in_none(self):
        self.assertEqual(self.hold([[to(1)], [to(1)]]), [[1]])
        self.assertEqual(self.hold([[choice(0, (0, 9), (1, 1))], [to(2)], [to(1)]]), [[1, 2]])
        # Nodes 0 and 1 lead to one another, but also into a ring.
        self.assertEqual(self.hold([[to(1)], [choice(0, (0, 1), (2, 1))], [to(2)]]), [[2]])

    def test_rings_are_sorted(self):
        net = [[to(7)], [to(6)], [to(5)], [to(4)], [to(3)], [to(2)], [to(1)], [to(0)]]
        self.assertEqual(self.hold(net), [[0, 7], [1, 6], [2, 5], [3, 4]])

    def test_any_chains(self):
        rng = Random(52)
        some = 0
        for turn in range(300):
            net = some_net(rng, rng.randrange(1, 10), 1, rng.choice((1, 2, 2)), ends=rng.choice((0, 0.1, 0.3)))
            some += len(self.hold(net)) > 1
        self.assertGreater(some, 20)

    def test_large_chains(self):
        rng = Random(53)
        for count in (60, 200):
            for ends in (0, 0.1):
                self.hold(some_net(rng, count, 1, 2, ends=ends, near=3))
                self.hold(some_net(rng, count, 1, 1, ends=ends))
        self.hold(some_net(rng, 60, 1, 60, ends=0))

    def test_nets_of_programs(self):
        coin = (("a", 2),)
        for block in ((("while", ALWAYS, ()),), (("while", ("a", "=", 1), (PASS,)),),
                      (("draw", "a", (1, 1)), ("while", ("a", "=", 1), (("gain", 1), PASS))),
                      (("while", ("a", "=", 0), (("draw", "a", (1, 1)),)),)):
            for state in ((0,), (1,)):
                self.hold(net_of((coin, block), state)[0])

    def test_hand_left(self):
        for net in (TWO, [[], [to(0)], [to(2), to(2)]], [[to(0), to(0)]], line(59) + [[to(0), to(1)]]):
            same = unchanged(self, net)
            with self.assertRaises(HandLeft):
                rings_of(net)
            same()

    def test_told_lists_are_the_askers_own(self):
        net = [[to(1)], [to(0)], [to(2)]]
        told = rings_of(net)
        told[0].clear()
        told.clear()
        self.assertEqual(rings_of(net), [[0, 1], [2]])


if __name__ == "__main__":
    unittest.main()
