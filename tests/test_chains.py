import unittest
from fractions import Fraction
from random import Random

from checks import figures, is_fraction, is_whole, pair_of, parameters_of, same_worth
from lots.chains import arrivals, for_ever, gain_ring, means, means_counted
from lots.errors import HandLeft
from lots.nets import net_of
from netting import (NOUGHT, ONE, choice, line, reached_by_words, rings_by_words, shuffled, some_net, successors,
                     sum_by_parts, to, unchanged)
from samples import PASS

HALF = (1, 2)
# From 0 by halves to the end 1 and on to 2, from there by thirds back to 0 or to the end 3; 4 is a ring.
WALK = [[choice(3, (1, 1), (2, 1))], [], [choice(0, (0, 1), (3, 2))], [], [to(4)]]
HANDS = ([[to(1), to(2)], [], [to(2)]], [[], [to(0)], [to(2), to(2)]], [[to(0), to(0)]], line(59) + [[to(0), to(1)]])


def gain_of(net, node):
    return net[node][0][0] if net[node] else NOUGHT


def parts_of(net, node):
    return net[node][0][1] if net[node] else []


def ends_of_net(net):
    return [node for node, choices in enumerate(net) if not choices]


def added(one, other):
    """A sum, not brought to lowest terms."""
    return (one[0] * other[1] + other[0] * one[1], one[1] * other[1])


def chains():
    """Chains of many sorts, small enough for everything to be gone through."""
    rng = Random(60)
    for turn in range(150):
        yield some_net(rng, rng.randrange(1, 10), 1, rng.choice((1, 2, 3)), ends=rng.choice((0, 0.1, 0.3)),
                       gains=rng.choice(((0,), (0, 0, 0, 1), (0, 1, Fraction(2, 3)))))


def large_chains():
    rng = Random(61)
    for count, near in ((60, None), (60, 2), (60, 5)):
        yield some_net(rng, count, 1, 3, ends=0.1, near=near, gains=(0, 0, 1, 5))
    yield some_net(rng, 60, 1, 60, ends=0.05, weights=range(1, 10))
    yield line(60)
    yield line(60, ring=True)
    yield shuffled(rng, line(60))[0]
    yield some_net(rng, 200, 1, 2, ends=0.1, near=3)
    yield net_of(((("a", 2),), (PASS, ("draw", "a", (1, 3))) + (("gain", "a"),) * 98), (0,))[0]


class ChainTest(unittest.TestCase):
    def fractions(self, told, net):
        self.assertIs(type(told), list)
        self.assertEqual(len(told), len(net))
        self.assertTrue(all(is_fraction(one) for one in told))


class ArrivalsTest(ChainTest):
    def hold(self, net, goals):
        same, kept = unchanged(self, net), list(goals)
        told = arrivals(net, goals)
        same()
        self.assertEqual(goals, kept)
        self.fractions(told, net)
        for node in range(len(net)):
            if node in goals:
                self.assertEqual(told[node], ONE)
            elif not reached_by_words(net, node) & set(goals):
                self.assertEqual(told[node], NOUGHT)
            else:
                self.assertTrue(same_worth(told[node], sum_by_parts(parts_of(net, node), told)))
        return told

    def test_names_and_arguments(self):
        self.assertEqual(parameters_of(arrivals), ["net", "goals"])

    def test_told_ones(self):
        self.assertEqual(self.hold(WALK, [1]), [(3, 5), ONE, (1, 5), NOUGHT, NOUGHT])
        self.assertEqual(self.hold(WALK, [3]), [(2, 5), NOUGHT, (4, 5), ONE, NOUGHT])
        self.assertEqual(self.hold(WALK, [1, 3]), [ONE, ONE, ONE, ONE, NOUGHT])

    def test_goals_in_any_order_and_twice(self):
        asked = self.hold(WALK, [1, 4])
        for goals in ([4, 1], [1, 4, 1], [4, 4, 4, 1, 1]):
            self.assertEqual(self.hold(WALK, goals), asked)

    def test_no_goals(self):
        self.assertEqual(self.hold(WALK, []), [NOUGHT] * 5)

    def test_goals_that_are_no_ends(self):
        self.assertEqual(self.hold(WALK, [2]), [HALF, NOUGHT, ONE, NOUGHT, NOUGHT])
        self.assertEqual(self.hold(WALK, [0]), [ONE, NOUGHT, (1, 3), NOUGHT, NOUGHT])
        self.assertEqual(self.hold(WALK, [2, 1]), [ONE, ONE, ONE, NOUGHT, NOUGHT])
        self.assertEqual(self.hold(line(4, ring=True), [2]), [ONE] * 4)
        self.assertEqual(self.hold([[to(0)], [choice(0, (0, 1), (2, 3))], []], [0]), [ONE, (1, 4), NOUGHT])

    def test_a_goal_counts_at_the_begin(self):
        self.assertEqual(self.hold([[]], [0]), [ONE])
        self.assertEqual(self.hold([[to(0)]], [0]), [ONE])
        self.assertEqual(self.hold([[to(1)], []], [0]), [ONE, NOUGHT])

    def test_small_nets(self):
        self.assertEqual(self.hold([], []), [])
        self.assertEqual(self.hold([[]], []), [NOUGHT])
        self.assertEqual(self.hold([[to(0)]], []), [NOUGHT])

    def test_any_chains(self):
        rng = Random(62)
        for net in chains():
            for turn in range(4):
                self.hold(net, [rng.randrange(len(net)) for goal in range(rng.randrange(0, 5))])
            self.hold(net, ends_of_net(net))

    def test_large_chains(self):
        rng = Random(63)
        for net in large_chains():
            self.hold(net, [rng.randrange(len(net)) for goal in range(4)])

    def test_loops_that_are_left_seldom(self):
        net = [[choice(0, (0, 10 ** 59), (1, 1), (2, 2))], [], []]
        self.assertEqual(self.hold(net, [1]), [(1, 3), ONE, NOUGHT])
        walk = [[]] + [[choice(0, (node - 1, 1), (node + 1, 1))] for node in range(1, 59)] + [[]]
        self.assertEqual(self.hold(walk, [59]), [pair_of(Fraction(node, 59)) for node in range(60)])

    def test_great_weights(self):
        rng = Random(64)
        weights = [figures(58, rng) for turn in range(60)]
        for parts in (2, 8, 60):
            net = some_net(rng, 60, 1, parts, weights=weights, ends=0.1)
            self.hold(net, ends_of_net(net)[:2])


class ForEverTest(ChainTest):
    def hold(self, net, whole=True):
        same = unchanged(self, net)
        told = for_ever(net)
        same()
        self.fractions(told, net)
        ringed = {node for ring in rings_by_words(net) for node in ring}
        for node in range(len(net)):
            if node in ringed:
                self.assertEqual(told[node], ONE)
            elif not reached_by_words(net, node) & ringed:
                self.assertEqual(told[node], NOUGHT)
            else:
                self.assertTrue(same_worth(told[node], sum_by_parts(parts_of(net, node), told)))
        for one, other in zip(told, arrivals(net, ends_of_net(net))):
            self.assertTrue(same_worth(added(one, other), ONE))
        return told

    def test_names_and_arguments(self):
        self.assertEqual(parameters_of(for_ever), ["net"])

    def test_no_ring(self):
        self.assertEqual(self.hold([]), [])
        self.assertEqual(self.hold([[]]), [NOUGHT])
        self.assertEqual(self.hold(line(5)), [NOUGHT] * 5)
        self.assertEqual(self.hold([[choice(7, (0, 99), (1, 1))], []]), [NOUGHT, NOUGHT])

    def test_rings_and_ways_into_them(self):
        self.assertEqual(self.hold([[to(0)]]), [ONE])
        self.assertEqual(self.hold(line(60, ring=True)), [ONE] * 60)
        self.assertEqual(self.hold(WALK), [NOUGHT, NOUGHT, NOUGHT, NOUGHT, ONE])
        net = [[choice(0, (1, 1), (2, 2), (3, 3))], [to(1)], [choice(0, (0, 1), (3, 1))], [], [to(0)]]
        self.assertEqual(self.hold(net), [(1, 5), ONE, (1, 10), NOUGHT, (1, 5)])

    def test_any_chains(self):
        for net in chains():
            self.hold(net)

    def test_large_chains(self):
        for net in large_chains():
            self.hold(net)

    def test_great_weights(self):
        rng = Random(65)
        net = some_net(rng, 60, 1, 4, weights=[figures(58, rng) for turn in range(60)], ends=0.1)
        self.hold(net + [[to(61)], [to(60)], [choice(0, (0, 1), (60, 10 ** 50))]])


class MeansTest(ChainTest):
    def hold(self, net):
        same = unchanged(self, net)
        told = means(net)
        same()
        self.assertIs(type(told), list)
        self.assertEqual(len(told), len(net))
        gaining = {node for node in range(len(net)) if gain_of(net, node) != NOUGHT}
        endless = {node for ring in rings_by_words(net) if gaining & set(ring) for node in ring}
        for node in range(len(net)):
            found = reached_by_words(net, node)
            if found & endless:
                self.assertIsNone(told[node])
                continue
            self.assertTrue(is_fraction(told[node]))
            if not found & gaining:
                self.assertEqual(told[node], NOUGHT)
            else:
                asked = added(gain_of(net, node), sum_by_parts(parts_of(net, node), told))
                self.assertTrue(same_worth(told[node], asked))
        self.rings(net, told, rings_by_words(net), gaining)
        return told

    def rings(self, net, told, rings, gaining):
        same = unchanged(self, net)
        for node in range(len(net)):
            named = gain_ring(net, node)
            if told[node] is not None:
                self.assertIsNone(named)
                continue
            self.assertIs(type(named), tuple)
            way, ring = named
            self.assertIs(type(way), list)
            self.assertIs(type(ring), list)
            self.assertIn(ring, rings)
            self.assertTrue(gaining & set(ring))
            self.assertTrue(all(is_whole(one) for one in way))
            self.assertEqual(way[0], node)
            self.assertIn(way[-1], ring)
            for one, other in zip(way, way[1:]):
                self.assertIn(other, successors(net, one))
        same()

    def test_names_and_arguments(self):
        self.assertEqual(parameters_of(means), ["net"])
        self.assertEqual(parameters_of(gain_ring), ["net", "node"])

    def test_told_ones(self):
        self.assertEqual(self.hold(WALK), [(18, 5), NOUGHT, (6, 5), NOUGHT, NOUGHT])
        self.assertEqual(self.hold([[to(1, 5)], [to(2, Fraction(1, 3))], []]), [(16, 3), (1, 3), NOUGHT])

    def test_small_nets(self):
        self.assertEqual(self.hold([]), [])
        self.assertEqual(self.hold([[]]), [NOUGHT])
        self.assertEqual(self.hold([[to(0)]]), [NOUGHT])
        self.assertEqual(self.hold([[to(0, 1)]]), [None])

    def test_loops_that_end_at_last(self):
        self.assertEqual(self.hold([[choice(1, (0, 1), (1, 1))], []]), [(2, 1), NOUGHT])
        self.assertEqual(self.hold([[choice(1, (0, 10 ** 59), (1, 1))], []]), [(10 ** 59 + 1, 1), NOUGHT])
        walk = [[]] + [[choice(1, (node - 1, 1), (node + 1, 1))] for node in range(1, 59)] + [[]]
        self.assertEqual(self.hold(walk), [(node * (59 - node), 1) for node in range(60)])

    def test_without_end_just_where_a_ring_with_a_gain_is_reached(self):
        net = [
            [choice(0, (1, 10 ** 59), (3, 1))],     # the ring is reached, however seldom
            [to(2, 4)],
            [],
            [to(4)], [to(3, 1)],                    # a ring with a gain at one of its nodes
            [to(5)],                                # a ring without gain
            [choice(7, (5, 1), (2, 1))],            # gains on the way into that ring
            [to(0)],
        ]
        self.assertEqual(self.hold(net), [None, (4, 1), NOUGHT, None, None, NOUGHT, (7, 1), None])
        self.assertIsNone(gain_ring(net, 6))
        self.assertEqual(gain_ring(net, 4)[1], [3, 4])
        self.assertEqual(gain_ring(net, 7)[1], [3, 4])

    def test_which_ring_is_named(self):
        net = [[choice(0, (1, 1), (2, 1), (3, 1))], [to(1)], [to(2)], [to(3, 1)], [to(1)]]
        self.assertEqual(self.hold(net), [None, NOUGHT, NOUGHT, None, NOUGHT])
        self.assertEqual(gain_ring(net, 0), ([0, 3], [3]))
        self.assertEqual(gain_ring(net, 3), ([3], [3]))

    def test_gains_of_sixty_figures(self):
        rng = Random(66)
        gains = [0] + [Fraction(figures(60, rng), figures(60, rng)) for turn in range(5)] + [figures(60, rng)]
        for turn in range(20):
            self.hold(some_net(rng, rng.randrange(2, 9), 1, 3, gains=gains, ends=0.3))
        self.hold(some_net(rng, 60, 1, 4, gains=gains, ends=0.1))
        great = 10 ** 60 - 1
        self.assertEqual(self.hold([[to(1, great)], [to(2, Fraction(1, great))], []])[0], (great * great + 1, great))

    def test_any_chains(self):
        endless = 0
        for net in chains():
            endless += None in self.hold(net)
        self.assertGreater(endless, 20)

    def test_large_chains(self):
        for net in large_chains():
            self.hold(net)

    def test_great_weights(self):
        rng = Random(67)
        weights = [figures(58, rng) for turn in range(60)]
        for parts in (3, 60):
            self.hold(some_net(rng, 60, 1, parts, weights=weights, ends=0.1))

    def test_told_lists_are_the_askers_own(self):
        net = [[to(1)], [to(0, 1)]]
        told = gain_ring(net, 0)
        kept = (list(told[0]), list(told[1]))
        told[0].clear()
        told[1].clear()
        self.assertEqual(gain_ring(net, 0), kept)
        means(net).clear()
        self.assertEqual(means(net), [None, None])


class CountedTest(ChainTest):
    def hold(self, net, goals):
        same, kept = unchanged(self, net), list(goals)
        told = means_counted(net, goals)
        same()
        self.assertEqual(goals, kept)
        self.fractions(told, net)
        shares = arrivals(net, goals)
        for node in range(len(net)):
            if not net[node] or shares[node] == NOUGHT:
                self.assertEqual(told[node], NOUGHT)
            else:
                gain = gain_of(net, node)
                gained = (gain[0] * shares[node][0], gain[1] * shares[node][1])
                self.assertTrue(same_worth(told[node], added(gained, sum_by_parts(parts_of(net, node), told))))
        return told

    def test_names_and_arguments(self):
        self.assertEqual(parameters_of(means_counted), ["net", "goals"])

    def test_told_ones(self):
        # From 0 half of the runs go to 1 with 3, the others come to 3 or back: k is 3/5 at 0.
        self.assertEqual(self.hold(WALK, [1]), [(54, 25), NOUGHT, (18, 25), NOUGHT, NOUGHT])
        self.assertEqual(self.hold(WALK, [1, 3]), means(WALK))
        self.assertEqual(self.hold([[to(1, 5)], []], [1]), [(5, 1), NOUGHT])
        self.assertEqual(self.hold([[choice(4, (1, 1), (2, 1))], [], [to(2, 9)]], [1]), [(2, 1), NOUGHT, NOUGHT])

    def test_goals_in_any_order_and_twice(self):
        asked = self.hold(WALK, [1, 3])
        for goals in ([3, 1], [1, 3, 3], [3, 1, 3, 1]):
            self.assertEqual(self.hold(WALK, goals), asked)

    def test_no_goals(self):
        self.assertEqual(self.hold(WALK, []), [NOUGHT] * 5)
        self.assertEqual(self.hold([], []), [])
        self.assertEqual(self.hold([[]], [0]), [NOUGHT])
        self.assertEqual(self.hold([[to(0, 1)]], []), [NOUGHT])

    def test_a_fraction_also_where_the_mean_is_without_end(self):
        net = [[choice(6, (0, 1), (1, 1), (2, 1))], [], [to(2, 1)]]
        self.assertEqual(means(net)[0], None)
        self.assertEqual(self.hold(net, [1])[0], (9, 2))

    def test_any_chains(self):
        rng = Random(68)
        for net in chains():
            ends = ends_of_net(net)
            for turn in range(3):
                self.hold(net, [rng.choice(ends) for goal in range(rng.randrange(0, 4))] if ends else [])
            self.hold(net, ends)

    def test_large_chains(self):
        for net in large_chains():
            self.hold(net, ends_of_net(net)[:3])

    def test_great_weights_and_gains(self):
        rng = Random(69)
        weights = [figures(40, rng) for turn in range(60)]
        net = some_net(rng, 30, 1, 4, weights=weights, gains=[figures(60, rng) for turn in range(9)], ends=0.1)
        self.hold(net, ends_of_net(net)[:2])


class HandLeftTest(unittest.TestCase):
    def test_each_refuses_a_net_that_is_no_chain(self):
        for net in HANDS:
            same = unchanged(self, net)
            for asked in (lambda: arrivals(net, []), lambda: arrivals(net, [0]), lambda: for_ever(net),
                          lambda: means(net), lambda: gain_ring(net, 0), lambda: means_counted(net, [])):
                with self.assertRaises(HandLeft):
                    asked()
            same()

    def test_wherever_the_node_stands(self):
        for place in range(7):
            net = [[to(node)] for node in range(7)]
            net[place] = [to(place), to(place, 1)]
            for node in range(7):
                with self.assertRaises(HandLeft):
                    gain_ring(net, node)
            for ask in (for_ever, means):
                with self.assertRaises(HandLeft):
                    ask(net)


if __name__ == "__main__":
    unittest.main()
