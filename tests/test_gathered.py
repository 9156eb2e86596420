import unittest
from fractions import Fraction
from random import Random

from checks import is_fraction
from lots.ratios import gathered


class GatheredTest(unittest.TestCase):
    def hold(self, pairs, asked):
        before = list(pairs)
        told = gathered(pairs)
        self.assertEqual(pairs, before)
        self.assertIs(type(told), list)
        for pair in told:
            self.assertIs(type(pair), tuple)
            self.assertEqual(len(pair), 2)
            self.assertTrue(is_fraction(pair[1]))
        self.assertEqual(told, asked)

    def test_of_none(self):
        self.hold([], [])

    def test_each_thing_once_and_sorted(self):
        self.hold(
            [(3, (1, 2)), (1, (1, 3)), (3, (1, 4)), (2, (1, 1)), (1, (2, 3))],
            [(1, (1, 1)), (2, (1, 1)), (3, (3, 4))],
        )

    def test_negative_and_great_things(self):
        great = 10 ** 60 - 1
        self.hold(
            [(great, (1, 2)), (-2, (1, 2)), (-1, (1, 3)), (0, (1, 5)), (-great, (1, 7)), (great, (1, 2)), (-1, (1, 3))],
            [(-great, (1, 7)), (-2, (1, 2)), (-1, (2, 3)), (0, (1, 5)), (great, (1, 1))],
        )

    def test_things_are_sorted_as_numbers(self):
        self.hold([(10, (1, 1)), (9, (1, 1)), (-10, (1, 1)), (-9, (1, 1))],
                  [(-10, (1, 1)), (-9, (1, 1)), (9, (1, 1)), (10, (1, 1))])

    def test_noughts_are_left_out(self):
        self.hold([(1, (0, 1))], [])
        self.hold([(1, (1, 2)), (2, (1, 2)), (1, (-1, 2))], [(2, (1, 2))])
        self.hold([(1, (1, 2)), (1, (-1, 3)), (1, (-1, 6))], [])
        self.hold([(1, (1, 2)), (1, (-1, 2)), (1, (1, 5))], [(1, (1, 5))])

    def test_shares_below_nought(self):
        self.hold([(1, (-1, 2)), (0, (-3, 1)), (1, (-1, 2))], [(0, (-3, 1)), (1, (-1, 1))])

    def test_tuples(self):
        self.hold(
            [((1, 0), (1, 2)), ((0, 9), (1, 2)), ((1, 0), (1, 2)), ((0, -1), (2, 1)), ((0, 10), (1, 1))],
            [((0, -1), (2, 1)), ((0, 9), (1, 2)), ((0, 10), (1, 1)), ((1, 0), (1, 1))],
        )
        self.hold([((2,), (1, 2)), ((1,), (1, 2)), ((2,), (-1, 2))], [((1,), (1, 2))])

    def test_the_empty_tuple(self):
        self.hold([((), (1, 2))], [((), (1, 2))])
        self.hold([((), (1, 2)), ((), (1, 3))], [((), (5, 6))])
        self.hold([((), (1, 2)), ((), (-1, 2))], [])

    def test_many_against_exact_sums(self):
        rng = Random(6)
        pairs = []
        sums = {}
        for _ in range(500):
            thing = (rng.randrange(-2, 3), rng.randrange(3))
            share = Fraction(rng.randrange(-4, 5), rng.randrange(1, 5))
            pairs.append((thing, (share.numerator, share.denominator)))
            sums[thing] = sums.get(thing, Fraction(0)) + share
        asked = [(thing, (sums[thing].numerator, sums[thing].denominator)) for thing in sorted(sums) if sums[thing]]
        self.hold(pairs, asked)

    def test_shares_of_two_thousand_figures(self):
        great = 10 ** 1999
        self.hold([(0, (1, great)), (0, (great - 1, great))], [(0, (1, 1))])

    def test_what_was_told_is_the_askers_own(self):
        pairs = [(2, (1, 2)), (1, (1, 2))]
        told = gathered(pairs)
        told.append((7, (1, 1)))
        told[0] = (8, (1, 1))
        self.hold(pairs, [(1, (1, 2)), (2, (1, 2))])
        later = gathered(pairs)
        pairs.append((3, (1, 1)))
        self.assertEqual(later, [(1, (1, 2)), (2, (1, 2))])


if __name__ == "__main__":
    unittest.main()
