import unittest
from fractions import Fraction
from random import Random

from checks import figures, is_fraction, pair_of, parameters_of, same_worth
from lots import ratios
from lots.errors import NoNumber
from lots.ratios import fraction, minus, over, plus, times, total_of, under


def some_fractions():
    """Small ones of either sign, nought, and ones of sixty and of two thousand figures."""
    rng = Random(4)
    some = [(0, 1), (1, 1), (-1, 1), (1, 2), (-1, 2), (2, 3), (-5, 6), (7, 1), (-9, 4)]
    for count in (60, 2000):
        for sign in (1, -1):
            some.append(pair_of(Fraction(sign * figures(count, rng), figures(count, rng))))
    some.append((10 ** 1999, 1))
    some.append((-1, 10 ** 1999))
    return some


class FractionTest(unittest.TestCase):
    def hold(self, top, bottom):
        told = fraction(top, bottom)
        self.assertTrue(is_fraction(told))
        self.assertTrue(same_worth(told, (top, bottom)))
        return told

    def test_lowest_terms(self):
        self.assertEqual(self.hold(6, 4), (3, 2))
        self.assertEqual(self.hold(3, 2), (3, 2))
        self.assertEqual(self.hold(12, 4), (3, 1))
        self.assertEqual(self.hold(4, 12), (1, 3))
        self.assertEqual(self.hold(5, 5), (1, 1))
        self.assertEqual(self.hold(-6, 4), (-3, 2))

    def test_negative_bottom(self):
        self.assertEqual(self.hold(6, -4), (-3, 2))
        self.assertEqual(self.hold(-6, -4), (3, 2))
        self.assertEqual(self.hold(1, -1), (-1, 1))
        self.assertEqual(self.hold(-1, -1), (1, 1))

    def test_nought_whatever_the_bottom(self):
        for bottom in (1, -1, 2, -7, 10 ** 60, -(10 ** 1999)):
            self.assertEqual(self.hold(0, bottom), (0, 1))

    def test_all_small_pairs(self):
        for top in range(-13, 14):
            for bottom in range(-13, 14):
                if bottom != 0:
                    self.assertEqual(self.hold(top, bottom), pair_of(Fraction(top, bottom)))

    def test_great_numbers(self):
        rng = Random(1)
        for count in (60, 2000):
            for top_sign in (1, -1):
                for bottom_sign in (1, -1):
                    part = figures(count // 2, rng)
                    top = top_sign * part * figures(count // 2, rng)
                    bottom = bottom_sign * part * figures(count // 2, rng)
                    self.assertEqual(self.hold(top, bottom), pair_of(Fraction(top, bottom)))
                    top = top_sign * figures(count, rng)
                    bottom = bottom_sign * figures(count, rng)
                    self.assertEqual(self.hold(top, bottom), pair_of(Fraction(top, bottom)))

    def test_bottom_of_nought_is_refused(self):
        for top in (0, 1, -1, 10 ** 60, -(10 ** 1999)):
            with self.assertRaises(NoNumber):
                fraction(top, 0)

    def test_what_is_no_whole_number_is_refused(self):
        for wrong in (True, False, None, "1", (1, 1), 1.0):
            with self.assertRaises(NoNumber):
                fraction(wrong, 2)
            with self.assertRaises(NoNumber):
                fraction(2, wrong)


class ReckoningTest(unittest.TestCase):
    def test_against_exact_sums(self):
        for one in some_fractions():
            for other in some_fractions():
                exact_one = Fraction(*one)
                exact_other = Fraction(*other)
                self.hold(plus(one, other), exact_one + exact_other)
                self.hold(minus(one, other), exact_one - exact_other)
                self.hold(times(one, other), exact_one * exact_other)
                if other[0] != 0:
                    self.hold(over(one, other), exact_one / exact_other)

    def hold(self, told, exact):
        self.assertTrue(is_fraction(told))
        self.assertTrue(told == pair_of(exact))

    def test_by_cross_products(self):
        for one in some_fractions():
            for other in some_fractions():
                (a, b), (c, d) = one, other
                self.assertTrue(same_worth(plus(one, other), (a * d + c * b, b * d)))
                self.assertTrue(same_worth(minus(one, other), (a * d - c * b, b * d)))
                self.assertTrue(same_worth(times(one, other), (a * c, b * d)))
                if c != 0:
                    self.assertTrue(same_worth(over(one, other), (a * d, b * c)))

    def test_a_fraction_and_itself(self):
        for one in some_fractions():
            self.assertEqual(minus(one, one), (0, 1))
            if one[0] != 0:
                self.assertEqual(over(one, one), (1, 1))

    def test_ordinary(self):
        self.assertEqual(plus((1, 2), (1, 3)), (5, 6))
        self.assertEqual(plus((1, 6), (1, 3)), (1, 2))
        self.assertEqual(minus((1, 2), (2, 3)), (-1, 6))
        self.assertEqual(times((-2, 3), (3, 4)), (-1, 2))
        self.assertEqual(over((1, 2), (-3, 4)), (-2, 3))
        self.assertEqual(over((0, 1), (-3, 4)), (0, 1))

    def test_over_nought_is_refused(self):
        for one in some_fractions():
            with self.assertRaises(NoNumber):
                over(one, (0, 1))


class UnderTest(unittest.TestCase):
    def test_truths(self):
        self.assertIs(under((1, 3), (1, 2)), True)
        self.assertIs(under((1, 2), (1, 3)), False)
        self.assertIs(under((1, 2), (1, 2)), False)
        self.assertIs(under((-1, 2), (-1, 3)), True)
        self.assertIs(under((-1, 3), (-1, 2)), False)
        self.assertIs(under((-1, 2), (-1, 2)), False)
        self.assertIs(under((-1, 2), (0, 1)), True)
        self.assertIs(under((0, 1), (0, 1)), False)

    def test_against_exact_fractions(self):
        for one in some_fractions():
            for other in some_fractions():
                self.assertIs(under(one, other), Fraction(*one) < Fraction(*other))

    def test_off_by_very_little(self):
        great = 10 ** 1999
        self.assertIs(under((great - 1, great), (1, 1)), True)
        self.assertIs(under((1, 1), (great + 1, great)), True)
        self.assertIs(under((great + 1, great), (1, 1)), False)


class TotalTest(unittest.TestCase):
    def test_of_none(self):
        self.assertEqual(total_of([]), (0, 1))

    def test_of_one(self):
        for one in some_fractions():
            self.assertEqual(total_of([one]), one)

    def test_of_many(self):
        self.assertEqual(total_of([(1, 2), (1, 3), (1, 6)]), (1, 1))
        self.assertEqual(total_of([(1, 2), (-1, 2)]), (0, 1))
        self.assertEqual(total_of([(1, 9)] * 300), (100, 3))
        rng = Random(2)
        some = [pair_of(Fraction(rng.randrange(-99, 100), rng.randrange(1, 100))) for _ in range(300)]
        told = total_of(some)
        self.assertTrue(is_fraction(told))
        self.assertEqual(told, pair_of(sum(Fraction(*one) for one in some)))

    def test_of_great_ones(self):
        rng = Random(3)
        one = pair_of(Fraction(figures(2000, rng), figures(2000, rng)))
        self.assertTrue(total_of([one, (-one[0], one[1]), (1, 3)]) == (1, 3))

    def test_the_list_stays(self):
        some = [(1, 2), (-1, 3), (0, 1)]
        total_of(some)
        self.assertEqual(some, [(1, 2), (-1, 3), (0, 1)])


class InterfaceTest(unittest.TestCase):
    def test_arguments(self):
        self.assertEqual(parameters_of(fraction), ["top", "bottom"])
        for name in ("plus", "minus", "times", "over", "under"):
            self.assertEqual(parameters_of(getattr(ratios, name)), ["one", "other"])
        self.assertEqual(parameters_of(total_of), ["some"])
        self.assertEqual(parameters_of(ratios.gathered), ["pairs"])


if __name__ == "__main__":
    unittest.main()
