import unittest
from fractions import Fraction
from itertools import product
from random import Random

from checks import figures, is_fraction, is_whole, pair_of, parameters_of, same_worth, sum_of_products
from lots.chains import means
from lots.hands import best_way, picked
from lots.nets import net_of
from netting import NOUGHT, choice, line, shuffled, some_net, to, told_lists, unchanged
from samples import ALWAYS, PASS


def all_picks(net):
    """Every way to pick, each node by itself."""
    return [list(picks) for picks in product(*[range(len(choices)) if choices else [None] for choices in net])]


def chain_by(net, picks):
    return [[] if pick is None else [choices[pick]] for choices, pick in zip(net, picks)]


def best_by_all(net):
    """The best numbers, found by going through all picks."""
    best = [Fraction(0)] * len(net)
    for picks in all_picks(net):
        for node, one in enumerate(means(chain_by(net, picks))):
            if one is None or best[node] is None:
                best[node] = None
            else:
                best[node] = max(best[node], Fraction(*one))
    return [None if one is None else pair_of(one) for one in best]


def not_under(one, other):
    return one[0] * other[1] >= other[0] * one[1]


class PickedTest(unittest.TestCase):
    def test_names_and_arguments(self):
        self.assertEqual(parameters_of(picked), ["net", "picks"])

    def test_told_ones(self):
        net = [[to(1, 5), to(2, 3)], [], [choice(1, (0, 1), (1, 2)), to(0), to(1, 9)]]
        self.assertEqual(picked(net, [0, None, 2]), [[to(1, 5)], [], [to(1, 9)]])
        self.assertEqual(picked(net, [1, None, 0]), [[to(2, 3)], [], [choice(1, (0, 1), (1, 2))]])
        self.assertEqual(picked([], []), [])
        self.assertEqual(picked([[]], [None]), [[]])
        self.assertEqual(picked([[to(0)]], [0]), [[to(0)]])
        eight = [[to(0, gain) for gain in range(8)]]
        for place in range(8):
            self.assertEqual(picked(eight, [place]), [[to(0, place)]])

    def test_any_nets(self):
        rng = Random(80)
        for turn in range(60):
            net = some_net(rng, rng.randrange(1, 61), 8)
            same = unchanged(self, net)
            picks = [rng.randrange(len(choices)) if choices else None for choices in net]
            kept = list(picks)
            told = picked(net, picks)
            same()
            self.assertEqual(picks, kept)
            self.assertEqual(told, chain_by(net, picks))

    def test_what_is_told_is_the_askers_own(self):
        net = [[to(1, 5), to(0)], [], [to(2)]]
        same = unchanged(self, net)
        told = picked(net, [0, None, 0])
        self.assertFalse({id(one) for one in told_lists(net)} & {id(one) for one in told_lists(told)})
        for choices in told:
            for gain, parts in choices:
                parts.append(7)
            choices.append(8)
        same()
        self.assertEqual(picked(net, [0, None, 0]), [[to(1, 5)], [], [to(2)]])


class BestTest(unittest.TestCase):
    def hold(self, net):
        same = unchanged(self, net)
        told = best_way(net)
        same()
        self.assertIs(type(told), tuple)
        numbers, picks = told
        self.assertIs(type(numbers), list)
        self.assertIs(type(picks), list)
        self.assertEqual(len(picks), len(net))
        for choices, pick in zip(net, picks):
            if choices:
                self.assertTrue(is_whole(pick) and 0 <= pick < len(choices))
            else:
                self.assertIsNone(pick)
        self.assertEqual(numbers, means(chain_by(net, picks)))
        self.kept(net, numbers)
        return numbers

    def kept(self, net, numbers):
        """No choice at a node with a fraction leads to a node without end, or gains more."""
        for choices, number in zip(net, numbers):
            if number is None:
                continue
            self.assertTrue(is_fraction(number))
            for gain, parts in choices:
                self.assertNotIn(None, [numbers[one] for one, share in parts])
                gained = sum_of_products([share for one, share in parts] + [(1, 1)],
                                         [numbers[one] for one, share in parts] + [gain])
                self.assertTrue(not_under(number, gained))

    def all_gone_through(self, net):
        numbers = self.hold(net)
        self.assertEqual(numbers, best_by_all(net))
        return numbers


class SmallTest(BestTest):
    def test_names_and_arguments(self):
        self.assertEqual(parameters_of(best_way), ["net"])

    def test_no_choice(self):
        self.assertEqual(best_way([]), ([], []))
        self.assertEqual(best_way([[]]), ([NOUGHT], [None]))
        self.assertEqual(best_way([[to(0)]]), ([NOUGHT], [0]))
        self.assertEqual(best_way([[to(0, 1)]]), ([None], [0]))
        self.assertEqual(best_way([[choice(3, (0, 1), (1, 2))], []]), ([(9, 2), NOUGHT], [0, None]))

    def test_the_greatest_gain(self):
        for place in range(8):
            choices = [to(1, 3)] * 8
            choices[place] = to(1, 4)
            self.assertEqual(best_way([choices, []]), ([(4, 1), NOUGHT], [place, None]))

    def test_later_gains_count(self):
        net = [[to(1, 3), to(2)], [], [to(1, 2), to(3, 2)], [choice(0, (1, 1), (4, 1))], [to(1, 10)]]
        self.assertEqual(self.all_gone_through(net), [(7, 1), NOUGHT, (7, 1), (5, 1), (10, 1)])

    def test_near_fractions(self):
        near = 10 ** 59
        net = [[choice(0, (2, near), (3, near + 1)), choice(0, (2, near + 1), (3, near + 2))], [], [to(1)], [to(1, 1)]]
        self.assertEqual(self.all_gone_through(net)[0], pair_of(Fraction(near + 1, 2 * near + 1)))

    def test_alike_choices(self):
        self.all_gone_through([[to(1, 2), to(1, 2), to(1, 2)], []])
        self.all_gone_through([[to(0), to(0), to(1, 3), to(1, 3)], []])
        self.all_gone_through([[to(1, 1), to(2)], [], [to(1, 1), to(0)]])

    def test_rings_that_a_choice_leaves(self):
        # To go round pays nothing, to leave does.
        self.assertEqual(self.all_gone_through([[to(1), to(2)], [to(0)], [to(3, 5)], []]),
                         [(5, 1), (5, 1), (5, 1), NOUGHT])
        self.assertEqual(self.all_gone_through([[to(0), to(1, 5)], []]), [(5, 1), NOUGHT])
        self.assertEqual(self.all_gone_through([[to(1, 5), to(0)], []]), [(5, 1), NOUGHT])

    def test_rings_without_gain_that_would_be_stayed_in(self):
        # Both nodes are worth what the other one is; only the way out brings it in.
        for first in ([to(1), to(2, 1)], [to(2, 1), to(1)]):
            for second in ([to(0), to(2, 3)], [to(2, 3), to(0)]):
                self.assertEqual(self.all_gone_through([first, second, []]), [(3, 1), (3, 1), NOUGHT])
        net = [[to(1), to(2)], [to(0), to(2)], [to(0), to(1), to(3, Fraction(1, 7))], []]
        self.assertEqual(self.all_gone_through(net), [(1, 7), (1, 7), (1, 7), NOUGHT])

    def test_without_end(self):
        self.assertEqual(self.all_gone_through([[to(0, 1), to(1, 10 ** 59)], []]), [None, NOUGHT])
        self.assertEqual(self.all_gone_through([[to(1, 9), to(2)], [], [to(0), to(1)]]), [(9, 1), NOUGHT, (9, 1)])
        net = [[to(1, 9), to(2)], [], [to(0, Fraction(1, 10 ** 59)), to(1)], [to(1, 4), choice(0, (0, 1), (1, 99))]]
        self.assertEqual(self.all_gone_through(net), [None, NOUGHT, None, None])

    def test_without_end_by_one_choice_among_many(self):
        # The ring stands only where 0, 1 and 2 all pick their last choice.
        net = [[to(3, 5), to(1)], [to(3), to(3), to(2)], [to(3, 7), to(0, 1)], [], [to(3, 1), to(0)], [to(3, 2)]]
        self.assertEqual(self.all_gone_through(net), [None, None, None, NOUGHT, None, (2, 1)])

    def test_a_ring_that_cannot_be_kept(self):
        # Each turn gains, but a part of each choice leads out of it.
        net = [[choice(1, (1, 1), (2, 1)), to(2, 1)], [to(0), choice(2, (0, 1), (2, 2))], []]
        self.assertNotIn(None, self.all_gone_through(net))

    def test_the_gain_that_leaves_the_ring_is_taken_once(self):
        net = [[to(1)], [to(0), to(2, 6)], [to(3)], []]
        self.assertEqual(self.all_gone_through(net), [(6, 1), (6, 1), NOUGHT, NOUGHT])
        net = [[to(1)], [to(0), choice(6, (0, 1), (2, 1))], [to(3)], []]
        self.assertEqual(self.all_gone_through(net), [(12, 1), (12, 1), NOUGHT, NOUGHT])

    def test_two_stays_one_with_a_gain(self):
        net = [[to(0), to(1)], [to(1), to(2)], [to(2, 1)], [to(3), to(4)], []]
        self.assertEqual(self.all_gone_through(net), [None, None, None, NOUGHT, NOUGHT])

    def test_any_small_nets(self):
        rng = Random(81)
        endless = mixed = 0
        for turn in range(400):
            net = some_net(rng, rng.randrange(1, 6), 3, rng.choice((1, 2, 3)), ends=rng.choice((0, 0.2, 0.4)),
                           gains=rng.choice(((0, 0, 0, 1), (0, 1, 2, Fraction(1, 3)))))
            if len(all_picks(net)) <= 250:
                numbers = self.all_gone_through(net)
                endless += None in numbers
                mixed += None in numbers and any(one not in (None, NOUGHT) for one in numbers)
        self.assertGreater(endless, 50)
        self.assertGreater(mixed, 4)

    def test_any_small_nets_with_few_gains(self):
        # Many rings without gain, few ways to bring something in.
        rng = Random(82)
        for turn in range(300):
            net = some_net(rng, rng.randrange(3, 7), 3, 2, gains=(0,) * 9 + (1, 3), ends=0.1)
            if len(all_picks(net)) <= 250:
                self.all_gone_through(net)

    def test_what_is_told_is_the_askers_own(self):
        net = [[to(1, 3), to(0)], []]
        numbers, picks = best_way(net)
        numbers.clear()
        picks.clear()
        self.assertEqual(best_way(net), ([(3, 1), NOUGHT], [0, None]))


class LargeTest(BestTest):
    def test_so_many_ways_that_none_could_go_through_them(self):
        rng = Random(83)
        for turn in range(6):
            self.hold(some_net(rng, 60, 8, rng.choice((2, 3, 8)), ends=0.1, gains=(0, 0, 0, 1, 5)))
        for turn in range(4):
            # All choices may end, so that no number is without end.
            net = some_net(rng, 59, 8, 3, ends=0)
            net = [[choice(Fraction(*gain), (59, Fraction(1, 9)), *[(one, Fraction(*share)) for one, share in parts])
                    for gain, parts in choices] for choices in net] + [[]]
            self.assertNotIn(None, self.hold(net))
        self.hold(some_net(rng, 60, 8, 60, weights=range(1, 10), ends=0.05, gains=(0,) * 30 + (1, 2)))

    def test_a_long_line(self):
        # Small gains on the way tempt to stop; the great one lies at the other end.
        rng = Random(84)
        for count in (60, 200):
            net = [[to(count - 1, 1), to(node + 1), to(0)] for node in range(count - 2)] + [[to(count - 1, 100)], []]
            self.assertEqual(self.hold(net), [(100, 1)] * (count - 1) + [NOUGHT])
            self.hold(shuffled(rng, net)[0])

    def test_stopping_a_fair_walk(self):
        # To stop at a place pays what stands there: best is the least hill above all of them.
        rng = Random(85)
        pays = [rng.randrange(100) for place in range(59)]
        net = [[to(59, pays[0])]]
        for place in range(1, 58):
            net.append([to(59, pays[place]), choice(0, (place - 1, 1), (place + 1, 1))])
        net += [[to(59, pays[58])], []]
        numbers = [Fraction(*one) for one in self.hold(net)]
        for place in range(59):
            hills = [Fraction(pays[left] * (right - place) + pays[right] * (place - left), right - left)
                     for left in range(place + 1) for right in range(place, 59) if left < right]
            self.assertEqual(numbers[place], max(hills + [Fraction(pays[place])]))

    def test_rings_without_gain_among_many_nodes(self):
        net = [[to((node + 1) % 59), to((node + 7) % 59), to(node), to(59, node)] for node in range(59)] + [[]]
        self.assertEqual(self.hold(net), [(58, 1)] * 59 + [NOUGHT])
        net[58].append(to(0, 1))
        self.assertEqual(self.hold(net), [None] * 59 + [NOUGHT])

    def test_great_numbers(self):
        rng = Random(86)
        weights = [figures(40, rng) for turn in range(40)]
        gains = [0, 0] + [Fraction(figures(60, rng), figures(60, rng)) for turn in range(3)]
        for parts in (2, 30):
            self.hold(some_net(rng, 30, 4, parts, weights=weights, gains=gains, ends=0.1))

    def test_nets_of_programs(self):
        boxes = (("a", 3), ("b", 3))
        throw = ("draw", "a", (1, 2, 3))
        for block in (
            (("while", ("b", "#", 2), (("hand", ((throw,), (("gain", "a"), ("set", "b", ("b", "+", 1))))),)),),
            (("while", ALWAYS, (("hand", ((), (("look", ("a", "=", 1)),), (throw, ("gain", 0)))),)),),
            (("times", 5, (("hand", ((throw,), (("draw", "b", (1, 1, 1)),), (PASS,))),)), ("gain", "a"), ("gain", "b")),
        ):
            self.hold(net_of((boxes, block), (0, 0))[0])
        net = net_of(((("a", 2),), (PASS, ("draw", "a", (1, 3))) + (("gain", "a"),) * 98), (0,))[0]
        numbers = self.hold(net)
        self.assertEqual(len(numbers), 200)
        self.assertTrue(same_worth(numbers[0], (98 * 3, 4)))

    def test_lines_need_no_choice(self):
        self.assertEqual(self.hold(line(60)), [NOUGHT] * 60)
        self.assertEqual(self.hold(line(60, ring=True)), [NOUGHT] * 60)


if __name__ == "__main__":
    unittest.main()
