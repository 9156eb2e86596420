import unittest
from fractions import Fraction
from random import Random

from checks import figures, is_fraction, is_whole, parameters_of
from lots.alike import laid, rounds
from lots.chains import arrivals, means
from lots.hands import best_way
from lots.nets import net_of
from netting import choice, line, shuffled, some_net, to, told_lists, unchanged
from samples import PASS


def by_classes(choices, classes):
    """The choices by classes, as a set."""
    found = set()
    for gain, parts in choices:
        shares = {}
        for number, share in parts:
            shares[classes[number]] = shares.get(classes[number], 0) + Fraction(*share)
        found.add((Fraction(*gain), frozenset(shares.items())))
    return found


def numbered(count, same):
    """Classes by a function that tells whether two nodes are in the same one, numbered by their first nodes."""
    firsts = []
    classes = []
    for node in range(count):
        found = [number for number, first in enumerate(firsts) if same(first, node)]
        if not found:
            firsts.append(node)
            found = [len(firsts) - 1]
        classes.append(found[0])
    return classes


def rounds_by_words(net, marks):
    told = [numbered(len(net), lambda one, other: marks[one] == marks[other])]
    while True:
        last = told[-1]
        choices = [by_classes(some, last) for some in net]
        finer = numbered(len(net), lambda one, other: last[one] == last[other] and choices[one] == choices[other])
        if finer == last:
            return told
        told.append(finer)


def twins(rng, count, most_choices, **rest):
    """A net in which many nodes are alike: each node of a smaller one stands several times."""
    small = some_net(rng, count, most_choices, **rest)
    copies = [rng.randrange(1, 4) for node in small]
    numbers = [[] for node in small]
    net = []
    for node, some in enumerate(copies):
        for copy in range(some):
            numbers[node].append(len(net))
            net.append(node)
    built = []
    for node in net:
        choices = []
        for gain, parts in small[node]:
            split = []
            for number, share in parts:
                chosen = rng.sample(numbers[number], rng.randrange(1, len(numbers[number]) + 1))
                split += [(one, Fraction(*share) / len(chosen)) for one in chosen]
            choices.append(choice(Fraction(*gain), *split))
        rng.shuffle(choices)
        built.append(choices + choices[:rng.randrange(2)])
    return shuffled(rng, built)[0]


class RoundsTest(unittest.TestCase):
    def hold(self, net, marks):
        same, kept = unchanged(self, net), list(marks)
        told = rounds(net, marks)
        same()
        self.assertEqual(marks, kept)
        self.assertIs(type(told), list)
        for classes in told:
            self.assertIs(type(classes), list)
            self.assertTrue(all(is_whole(one) for one in classes))
        self.assertEqual(told, rounds_by_words(net, marks))
        return told

    def test_names_and_arguments(self):
        self.assertEqual(parameters_of(rounds), ["net", "marks"])

    def test_no_nodes(self):
        self.assertEqual(rounds([], []), [[]])

    def test_one_node(self):
        self.assertEqual(self.hold([[]], [7]), [[0]])
        self.assertEqual(self.hold([[to(0)]], [-1]), [[0]])

    def test_marks(self):
        ends = [[], [], [], []]
        self.assertEqual(self.hold(ends, [5, 5, 5, 5]), [[0, 0, 0, 0]])
        self.assertEqual(self.hold(ends, [5, 3, 5, 1]), [[0, 1, 0, 2]])
        self.assertEqual(self.hold(ends, [0, -1, 10 ** 59, -1]), [[0, 1, 2, 1]])
        self.assertEqual(self.hold(ends, [10 ** 59, 10 ** 59 + 1, 10 ** 59, -(10 ** 59)]), [[0, 1, 0, 2]])

    def test_classes_are_numbered_by_their_first_nodes(self):
        self.assertEqual(self.hold([[to(3)], [to(2)], [], [to(1)]], [0] * 4),
                         [[0, 0, 0, 0], [0, 0, 1, 0], [0, 1, 2, 0], [0, 1, 2, 3]])

    def test_an_end_is_unlike_a_node_with_choices(self):
        self.assertEqual(self.hold([[to(0)], []], [0, 0]), [[0, 0], [0, 1]])

    def test_gains_part_nodes(self):
        self.assertEqual(self.hold([[to(2, 1)], [to(2, 2)], []], [0, 0, 1]), [[0, 0, 1], [0, 1, 2]])
        self.assertEqual(self.hold([[to(2, Fraction(1, 2))], [to(2, Fraction(2, 4))], []], [0, 0, 1]), [[0, 0, 1]])

    def test_shares_are_gathered_by_classes(self):
        net = [[choice(0, (2, 1), (3, 1), (4, 2))], [choice(0, (2, 2), (4, 2))], [], [], []]
        self.assertEqual(self.hold(net, [0, 0, 1, 1, 2]), [[0, 0, 1, 1, 2]])
        self.assertEqual(self.hold(net, [0, 0, 1, 2, 2]), [[0, 0, 1, 2, 2], [0, 1, 2, 3, 3]])

    def test_choices_in_any_order_and_twice(self):
        one, two = choice(1, (3, 1), (4, 2)), to(4)
        net = [[one, two], [two, one], [two, one, two, one, one], [], []]
        self.assertEqual(self.hold(net, [0, 0, 0, 1, 2]), [[0, 0, 0, 1, 2]])
        net = [[one, two], [one], [one, one], [], []]
        self.assertEqual(self.hold(net, [0, 0, 0, 1, 2]), [[0, 0, 0, 1, 2], [0, 1, 1, 2, 3]])

    def test_choices_that_differ_by_nodes_and_not_by_classes(self):
        net = [[to(2), to(3)], [to(2)], [], []]
        self.assertEqual(self.hold(net, [0, 0, 1, 1]), [[0, 0, 1, 1]])
        self.assertEqual(self.hold(net, [0, 0, 1, 2]), [[0, 0, 1, 2], [0, 1, 2, 3]])

    def test_a_class_is_parted_only_from_the_round_ahead(self):
        # Node 1 and node 2 look alike until node 3 and node 4 are told apart.
        net = [[to(1)], [to(3)], [to(4)], [to(5)], [to(6)], [], [to(6)]]
        told = self.hold(net, [0, 0, 0, 0, 0, 0, 0])
        self.assertEqual(told[0], [0] * 7)
        self.assertEqual(told[1], [0, 0, 0, 0, 0, 1, 0])
        self.assertEqual(told[-1], [0, 1, 2, 3, 2, 4, 2])

    def test_the_last_round_stands_once(self):
        for count in (2, 5, 60):
            told = self.hold(line(count), [0] * count)
            self.assertEqual(len(told), count)
            self.assertEqual(told[-1], list(range(count)))
        self.assertEqual(self.hold(line(60, ring=True), [3] * 60), [[0] * 60])

    def test_any_nets(self):
        rng = Random(70)
        parted = 0
        for turn in range(150):
            net = some_net(rng, rng.randrange(1, 8), rng.choice((1, 3)), 2, gains=(0, 1), weights=(1, 1, 2), ends=0.3)
            parted += len(self.hold(net, [rng.choice((-3, 10 ** 59)) for node in net])) > 2
        self.assertGreater(parted, 15)

    def test_nets_with_twins(self):
        rng = Random(71)
        together = 0
        for turn in range(60):
            net = twins(rng, rng.randrange(2, 7), rng.choice((1, 3)))
            last = self.hold(net, [0] * len(net))[-1]
            together += len(set(last)) < len(net)
        self.assertGreater(together, 40)

    def test_large_nets(self):
        rng = Random(72)
        self.hold(some_net(rng, 60, 8, 3), [0] * 60)
        self.hold(some_net(rng, 60, 2, 60, weights=[figures(50, rng) for turn in range(3)]), [0] * 60)
        net = twins(rng, 30, 3)
        self.hold(net, [0] * len(net))
        net = net_of(((("a", 2),), (PASS, ("draw", "a", (1, 1))) + (PASS,) * 98), (0,))[0]
        self.assertEqual(len(self.hold(net, [0] * 200)), 101)

    def test_told_lists_are_the_askers_own(self):
        net = line(3)
        told = rounds(net, [0, 0, 0])
        for classes in told:
            classes.reverse()
        told.clear()
        self.assertEqual(rounds(net, [0, 0, 0]), [[0, 0, 0], [0, 0, 1], [0, 1, 2]])


class LaidTest(unittest.TestCase):
    def hold(self, net, marks):
        same = unchanged(self, net)
        classes = rounds(net, marks)[-1]
        kept = list(classes)
        told = laid(net, classes)
        same()
        self.assertEqual(classes, kept)
        self.assertIs(type(told), list)
        self.assertEqual(len(told), len(set(classes)))
        for node, number in enumerate(classes):
            self.assertIs(type(told[number]), list)
            asked = by_classes(net[node], classes)
            self.assertEqual(len(told[number]), len(asked))
            self.assertEqual({(Fraction(*gain), frozenset((one, Fraction(*share)) for one, share in parts))
                              for gain, parts in told[number]}, asked)
        for choices in told:
            for one in choices:
                self.assertIs(type(one), tuple)
                self.assertTrue(is_fraction(one[0]))
                self.assertIs(type(one[1]), list)
                self.assertEqual(one[1], sorted(one[1]))
                self.assertTrue(all(type(part) is tuple and is_fraction(part[1]) for part in one[1]))
        return told, classes

    def test_names_and_arguments(self):
        self.assertEqual(parameters_of(laid), ["net", "classes"])

    def test_told_ones(self):
        self.assertEqual(laid([], []), [])
        self.assertEqual(laid([[]], [0]), [[]])
        self.assertEqual(laid([[], [], []], [0, 0, 0]), [[]])
        self.assertEqual(laid(line(60, ring=True), [0] * 60), [[to(0)]])
        net = [[choice(2, (2, 1), (3, 1), (4, 2))], [choice(2, (2, 2), (4, 2))], [], [], [to(0)]]
        self.assertEqual(self.hold(net, [0, 0, 1, 1, 2])[0], [[choice(2, (1, 1), (2, 1))], [], [to(0)]])

    def test_choices_stand_once(self):
        net = [[to(1, 3), to(2, 3), to(1, 3), to(1)], [], []]
        told, classes = self.hold(net, [0, 1, 1])
        self.assertEqual(sorted(told[0]), sorted([to(1, 3), to(1)]))
        self.assertEqual(told[1], [])

    def test_any_nets(self):
        rng = Random(73)
        for turn in range(80):
            net = twins(rng, rng.randrange(2, 7), rng.choice((1, 3)))
            self.hold(net, [rng.randrange(2) for node in net])
            self.hold(net, [0] * len(net))

    def test_means_of_chains_stay(self):
        rng = Random(74)
        endless = 0
        for turn in range(80):
            net = [choices[:1] for choices in twins(rng, rng.randrange(2, 8), 1, ends=0.15)]
            told, classes = self.hold(net, [rng.choice((0, 0, 1)) for node in net])
            numbers = means(told)
            self.assertEqual([numbers[number] for number in classes], means(net))
            endless += None in numbers
        self.assertGreater(endless, 10)

    def test_arrivals_of_chains_stay(self):
        rng = Random(75)
        for turn in range(80):
            net = [choices[:1] for choices in twins(rng, rng.randrange(2, 8), 1)]
            marks = [rng.randrange(3) for node in net]
            goals = [node for node in range(len(net)) if marks[node] == 0]
            told, classes = self.hold(net, marks)
            shares = arrivals(told, [classes[goal] for goal in goals])
            self.assertEqual([shares[number] for number in classes], arrivals(net, goals))

    def test_best_numbers_stay(self):
        rng = Random(76)
        for turn in range(60):
            net = twins(rng, rng.randrange(2, 7), 3, ends=0.3)
            told, classes = self.hold(net, [rng.choice((0, 0, 1)) for node in net])
            numbers = best_way(told)[0]
            self.assertEqual([numbers[number] for number in classes], best_way(net)[0])

    def test_a_laid_net_is_parted_no_more(self):
        rng = Random(77)
        for turn in range(40):
            net = twins(rng, rng.randrange(2, 7), 3)
            told, classes = self.hold(net, [0] * len(net))
            self.assertEqual(rounds(told, list(range(len(told)))), [list(range(len(told)))])
            self.assertEqual(rounds(told, [0] * len(told))[-1], list(range(len(told))))

    def test_told_lists_are_the_askers_own(self):
        net = [[to(1)], [to(0)], [choice(1, (0, 1), (1, 1))]]
        classes = [0, 0, 1]
        told = laid(net, classes)
        kept = repr(told)
        ids = {id(one) for one in told_lists(net)}
        self.assertFalse(ids & {id(one) for one in told_lists(told)})
        for choices in told:
            for gain, parts in choices:
                parts.clear()
            choices.clear()
        self.assertEqual(repr(laid(net, classes)), kept)


if __name__ == "__main__":
    unittest.main()
