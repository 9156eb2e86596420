import copy
import unittest
from fractions import Fraction
from math import gcd
from random import Random

from checks import figures, is_fraction, pair_of, parameters_of, same_worth, sum_of_products
from lots.equations import FIRST_MODULUS, answer_by, answer_of, meets
from lots.remainders import inverse_of

NOUGHT = (0, 1)


def whole(*numbers):
    return [(number, 1) for number in numbers]


def some_fraction(rng, most):
    return pair_of(Fraction(rng.randrange(-most, most + 1), rng.randrange(1, most + 1)))


def some_rows(rng, count, many, most):
    return [[some_fraction(rng, most) for _ in range(many + 1)] for _ in range(count)]


def small_rows(rng, count, many, most):
    return [whole(*[rng.randrange(-most, most + 1) for _ in range(many + 1)]) for _ in range(count)]


def meeting(coefficients, xs):
    """A row of these coefficients that xs meets."""
    top, bottom = sum_of_products(coefficients, xs)
    return coefficients + [pair_of(Fraction(top, bottom))]


def ranks(rows, many):
    """How many rows are free of one another, without and with their last fractions."""
    exact = [[Fraction(*one) for one in row] for row in rows]
    return rank([row[:many] for row in exact], many), rank(exact, many + 1)


def rank(rows, width):
    rows = list(rows)
    found = 0
    for place in range(width):
        pivots = [row for row in rows if row[place] != 0]
        if pivots:
            pivot = pivots[0]
            rows = [row for row in rows if row is not pivot]
            rows = [[a - row[place] / pivot[place] * b for a, b in zip(row, pivot)] for row in rows]
            found = found + 1
    return found


def asked_of(rows, many):
    bare, full = ranks(rows, many)
    return "none" if bare < full else "one" if bare == many else "many"


class AnswerCase(unittest.TestCase):
    def hold(self, rows, many, asked):
        """Asks, and holds the answer against point [6] by sums alone."""
        before = copy.deepcopy(rows)
        told = answer_of(rows, many)
        self.assertTrue(rows == before)
        self.hold_told(rows, many, asked, told)
        return told

    def hold_told(self, rows, many, asked, told):
        self.assertIs(type(told), tuple)
        self.assertEqual(told[0], asked)
        self.assertEqual(len(told), 3 if asked == "many" else 2)
        for some in told[1:]:
            self.assertIs(type(some), list)
            self.assertTrue(all(is_fraction(one) for one in some))
        if asked == "none":
            self.hold_none(rows, many, told[1])
        else:
            self.hold_met(rows, many, told[1], [row[many] for row in rows])
        if asked == "many":
            self.hold_met(rows, many, told[2], [NOUGHT for _ in rows])
            self.assertTrue(any(one != NOUGHT for one in told[2]))

    def hold_met(self, rows, many, xs, lasts):
        self.assertEqual(len(xs), many)
        for row, last in zip(rows, lasts):
            self.assertTrue(same_worth(sum_of_products(row[:many], xs), last))

    def hold_none(self, rows, many, ys):
        self.assertEqual(len(ys), len(rows))
        for place in range(many):
            self.assertEqual(sum_of_products([row[place] for row in rows], ys)[0], 0)
        self.assertNotEqual(sum_of_products([row[many] for row in rows], ys)[0], 0)


class SmallAnswersTest(AnswerCase):
    def test_one(self):
        self.assertEqual(self.hold([whole(2, 1)], 1, "one"), ("one", [(1, 2)]))
        self.assertEqual(self.hold([whole(1, 1, 3), whole(1, -1, 1)], 2, "one"), ("one", whole(2, 1)))
        rows = [[(1, 2), (1, 3), (1, 1)], [(1, 4), (-1, 5), (0, 1)]]
        self.hold(rows, 2, "one")
        self.assertEqual(self.hold([whole(0, 1, 5), whole(1, 0, -7)], 2, "one"), ("one", whole(-7, 5)))

    def test_none(self):
        self.hold([whole(1, 1), whole(1, 2)], 1, "none")
        self.hold([whole(0, 1)], 1, "none")
        self.hold([whole(1, 1, 1), whole(1, -1, 0), whole(2, 0, 2)], 2, "none")
        self.hold([whole(1, 2, 3, 1), whole(4, 5, 6, 1), whole(5, 7, 9, 3)], 3, "none")

    def test_many(self):
        self.hold([whole(1, 1, 2)], 2, "many")
        self.hold([whole(0, 0)], 1, "many")
        self.hold([whole(1, 2, 3, 1), whole(4, 5, 6, 1), whole(5, 7, 9, 2)], 3, "many")
        self.hold([whole(0, 1, 0, 4)], 3, "many")

    def test_no_unknowns(self):
        self.assertEqual(self.hold([], 0, "one"), ("one", []))
        self.assertEqual(self.hold([[NOUGHT]], 0, "one"), ("one", []))
        self.assertEqual(self.hold([[NOUGHT]] * 200, 0, "one"), ("one", []))
        self.hold([[(1, 3)]], 0, "none")
        self.hold([[NOUGHT], [(-1, 10 ** 59)], [NOUGHT]], 0, "none")
        self.hold([[NOUGHT]] * 199 + [whole(1)], 0, "none")
        self.hold([whole(1), whole(-1)], 0, "none")

    def test_no_rows(self):
        for many in (1, 2, 7, 200):
            self.hold([], many, "many")

    def test_rows_of_noughts(self):
        self.hold([whole(0, 0, 0)] * 3, 2, "many")
        self.hold([whole(0, 0, 0), whole(1, 0, 1), whole(0, 0, 0), whole(0, 2, 1)], 2, "one")
        self.hold([whole(0, 0, 0), whole(0, 0, 1), whole(1, 1, 1)], 2, "none")

    def test_more_rows_than_unknowns(self):
        xs = [(1, 2), (-3, 5)]
        rng = Random(8)
        rows = [meeting(row[:2], xs) for row in some_rows(rng, 9, 2, 9)]
        self.assertEqual(self.hold(rows, 2, "one"), ("one", xs))
        rows[4][2] = (rows[4][2][0] + rows[4][2][1], rows[4][2][1])
        self.hold(rows, 2, "none")

    def test_fewer_rows_than_unknowns(self):
        rng = Random(9)
        self.hold(some_rows(rng, 3, 7, 9), 7, "many")
        self.hold([whole(1, 1, 1, 1), whole(2, 2, 2, 3)], 3, "none")

    def test_rows_that_hang_on_one_another(self):
        row = [(1, 2), (1, 3), (1, 5)]
        self.hold([row, row], 2, "many")
        self.hold([row, [(1, 1), (2, 3), (2, 5)]], 2, "many")
        self.hold([row, [(1, 1), (2, 3), (2, 7)]], 2, "none")
        self.hold([row, row, whole(0, 1, 1)], 2, "one")

    def test_last_fractions_of_nought(self):
        self.assertEqual(self.hold([whole(1, 2, 0), whole(3, 4, 0)], 2, "one"), ("one", whole(0, 0)))
        self.hold([whole(1, 2, 0), whole(2, 4, 0)], 2, "many")

    def test_off_by_very_little(self):
        little = (1, 10 ** 59)
        self.hold([whole(1, 1), [(1, 1), (10 ** 59 + 1, 10 ** 59)]], 1, "none")
        self.hold([whole(1, 1, 1), [(1, 1), (10 ** 59 + 1, 10 ** 59), (1, 1)]], 2, "one")
        self.hold([[little, (1, 1)]], 1, "one")
        self.hold([[NOUGHT, little]], 1, "none")

    def test_many_small_ones_of_all_three_answers(self):
        rng = Random(10)
        seen = {"one": 0, "none": 0, "many": 0}
        for turn in range(600):
            count = rng.randrange(6)
            many = rng.randrange(6)
            most = rng.choice((1, 2, 9, 10 ** 60))
            make = some_rows if turn % 2 == 0 else small_rows
            rows = make(rng, count, many, most)
            if count > 2 and turn % 3 == 0:
                rows[0] = [pair_of(Fraction(*a) - 2 * Fraction(*b)) for a, b in zip(rows[1], rows[2])]
            asked = asked_of(rows, many)
            self.hold(rows, many, asked)
            seen[asked] = seen[asked] + 1
        self.assertTrue(min(seen.values()) > 50, seen)


class GreatAnswersTest(AnswerCase):
    def test_sixty_figures(self):
        rng = Random(11)
        rows = some_rows(rng, 4, 4, 10 ** 60)
        self.hold(rows, 4, "one")
        self.hold(rows[:3], 4, "many")
        self.hold(rows + some_rows(rng, 1, 4, 10 ** 60), 4, "none")

    def test_two_thousand_figures(self):
        rng = Random(12)
        top, bottom, last = [figures(2000, rng) for _ in range(3)]
        self.hold([[pair_of(Fraction(-top, bottom)), (last, 1)]], 1, "one")
        xs = [pair_of(Fraction(1, top)), pair_of(Fraction(-last, 3))]
        rows = [meeting(row[:2], xs) for row in small_rows(rng, 3, 2, 9)]
        self.assertTrue(self.hold(rows, 2, "one")[1] == xs)
        self.hold([whole(top, bottom), whole(bottom, top)], 1, "none")
        self.hold([whole(top, bottom, last)], 2, "many")

    def test_sums_that_a_great_prime_divides(self):
        for prime in (FIRST_MODULUS, FIRST_MODULUS * (FIRST_MODULUS + 2), 2 ** 61 - 1, 2 ** 127 - 1):
            self.hold([whole(1, 1, 0), whole(1, 1 + prime, 1)], 2, "one")
            self.hold([whole(prime, 1)], 1, "one")
            self.hold([[(1, prime), (1, 1)]], 1, "one")
            self.hold([whole(prime, 0, 1), whole(0, prime, 1)], 2, "one")
            self.hold([whole(prime, prime, 1)], 2, "many")
            self.hold([whole(1, 1, 0), whole(1, 1, prime)], 2, "none")
            self.hold([whole(prime, 1), whole(prime, 2)], 1, "none")
            self.hold([whole(0, prime)], 1, "none")
            self.hold([whole(1, 2, 1), whole(1, 2 + prime, 1), whole(2, 4 + prime, 3)], 2, "none")


class ModulusTest(AnswerCase):
    def test_any_odd_modulus_tells_what_is_right_or_nothing(self):
        rng = Random(19)
        told_by = {}
        for turn in range(300):
            count = rng.randrange(1, 4)
            many = rng.randrange(1, 4)
            rows = small_rows(rng, count, many, 9)
            for modulus in (3, 7, 9, 15, 105):
                told = answer_by(rows, many, modulus)
                if told is not None:
                    self.hold_told(rows, many, asked_of(rows, many), told)
                told_by[modulus, told is None] = True
        self.assertEqual(len(told_by), 10)

    def test_inverse(self):
        for modulus in (3, 9, 15, 101):
            for number in range(-modulus, 2 * modulus):
                inverse = inverse_of(number, modulus)
                if gcd(number, modulus) == 1:
                    self.assertEqual(number * inverse % modulus, 1)
                else:
                    self.assertIsNone(inverse)


class BoundsTest(AnswerCase):
    def test_one_at_the_bounds(self):
        rng = Random(13)
        self.hold(small_rows(rng, 200, 200, 9), 200, "one")

    def test_one_of_great_numbers_at_the_bounds(self):
        rng = Random(14)
        self.hold(small_rows(rng, 200, 200, 10 ** 9), 200, "one")

    def test_one_of_fractions_at_the_bounds(self):
        rng = Random(15)
        xs = [some_fraction(rng, 99) for _ in range(200)]
        rows = [meeting(row[:200], xs) for row in some_rows(rng, 200, 200, 99)]
        self.assertTrue(self.hold(rows, 200, "one") == ("one", xs))

    def test_none_and_many_at_the_bounds(self):
        rng = Random(16)
        rows = small_rows(rng, 199, 200, 9)
        rows.append(whole(*[sum(row[place][0] for row in rows) for place in range(201)]))
        self.hold(rows, 200, "many")
        rows[-1] = rows[-1][:200] + [(rows[-1][200][0] * 10 ** 50 + 1, 10 ** 50)]
        self.hold(rows, 200, "none")

    def test_thin_rows_at_the_bounds(self):
        rows = []
        for place in range(200):
            row = [NOUGHT] * 201
            row[place] = (1, 1)
            if place > 0:
                row[place - 1] = (-1, 3)
            if place < 199:
                row[place + 1] = (-2, 3)
            row[200] = (1, place + 1)
            rows.append(row)
        self.hold(rows, 200, "one")

    def test_few_of_the_one_and_very_many_of_the_other(self):
        rng = Random(17)
        self.hold(some_rows(rng, 2, 200, 9), 200, "many")
        self.hold(some_rows(rng, 200, 2, 9), 2, "none")
        xs = [(3, 7), (-5, 2)]
        self.hold([meeting(row[:2], xs) for row in some_rows(rng, 200, 2, 9)], 2, "one")


class OwnTest(AnswerCase):
    def test_a_told_list_that_is_changed_changes_no_later_answer(self):
        cases = (
            ([whole(1, 1, 3), whole(1, -1, 1)], 2, "one"),
            ([whole(1, 1), whole(1, 2)], 1, "none"),
            ([whole(1, 1, 2)], 2, "many"),
            ([], 0, "one"),
            ([], 3, "many"),
        )
        for rows, many, asked in cases:
            for some in self.hold(rows, many, asked)[1:]:
                some.append((99, 1))
                some[0] = (77, 1)
            self.hold(rows, many, asked)

    def test_rows_that_are_changed_later_change_nothing_told(self):
        rows = [whole(1, 1, 3), whole(1, -1, 1)]
        told = answer_of(rows, 2)
        rows[0][2] = (5, 1)
        rows.append(whole(0, 0, 1))
        self.assertEqual(told, ("one", whole(2, 1)))
        self.hold(rows, 2, "none")


class MeetsTest(unittest.TestCase):
    def test_true_and_false(self):
        rows = [whole(1, 1, 3), [(1, 2), (-1, 2), (1, 2)]]
        self.assertIs(meets(rows, whole(2, 1)), True)
        self.assertIs(meets(rows, whole(1, 2)), False)
        self.assertIs(meets(rows, whole(3, 0)), False)
        self.assertIs(meets(rows[1:], whole(3, 2)), True)
        self.assertIs(meets([[(1, 2), (1, 3), (1, 1)]], [(2, 3), (2, 1)]), True)
        self.assertIs(meets([[(1, 2), (1, 3), (1, 1)]], [(-2, 3), (2, 1)]), False)

    def test_each_row_is_asked(self):
        rows = [whole(1, 1), whole(1, 1), whole(1, 1)]
        self.assertIs(meets(rows, whole(1)), True)
        for place in range(3):
            self.assertIs(meets(rows[:place] + [whole(1, 2)] + rows[place:], whole(1)), False)

    def test_no_unknowns(self):
        self.assertIs(meets([], []), True)
        self.assertIs(meets([[NOUGHT], [NOUGHT]], []), True)
        self.assertIs(meets([[NOUGHT], [(1, 9)]], []), False)

    def test_no_rows(self):
        self.assertIs(meets([], whole(4, -5)), True)

    def test_rows_of_noughts(self):
        self.assertIs(meets([whole(0, 0, 0)], whole(4, -5)), True)
        self.assertIs(meets([whole(0, 0, 1)], whole(4, -5)), False)

    def test_off_by_very_little(self):
        for great in (10 ** 59, 10 ** 1999):
            near = (great + 1, great)
            self.assertIs(meets([whole(1, 1)], [near]), False)
            self.assertIs(meets([[(1, 1), near]], [near]), True)
            self.assertIs(meets([[near, (1, 1)]], whole(1)), False)
            self.assertIs(meets([[near, (1, 1)]], [(great, great + 1)]), True)
            self.assertIs(meets([whole(1, -1, 0)], [near, (1, 1)]), False)

    def test_at_the_bounds(self):
        rng = Random(18)
        xs = [some_fraction(rng, 10 ** 9) for _ in range(200)]
        rows = [meeting(row[:200], xs) for row in some_rows(rng, 200, 200, 9)]
        self.assertIs(meets(rows, xs), True)
        top, bottom = xs[123]
        xs[123] = pair_of(Fraction(top, bottom) + Fraction(1, 10 ** 60))
        self.assertIs(meets(rows, xs), False)

    def test_what_is_handed_in_stays(self):
        rows = [whole(1, 1, 3), [(1, 2), (-1, 2), (1, 2)]]
        xs = whole(2, 1)
        before = copy.deepcopy((rows, xs))
        meets(rows, xs)
        self.assertEqual((rows, xs), before)


class InterfaceTest(unittest.TestCase):
    def test_arguments(self):
        self.assertEqual(parameters_of(meets), ["rows", "xs"])
        self.assertEqual(parameters_of(answer_of), ["rows", "many"])


if __name__ == "__main__":
    unittest.main()
