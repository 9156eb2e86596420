import unittest
from fractions import Fraction
from itertools import product
from math import gcd
from random import Random

from checks import figures, is_fraction, is_whole, parameters_of
from lots import boxes as module
from lots.boxes import drawn, holds, put_into, reckoned, start_of, states_of, worth

TWO = (("a", 3), ("b", 2))
# Each name is the beginning of the next one, or is one letter off.
NEAR = (("ab", 5), ("a", 5), ("abc", 5), ("b", 5))
GREAT = 10 ** 59 + 7
NUMBERS = [0, 1, -1, 2, -2, 8, 9, -9, 999999999, 10 ** 9, GREAT, -GREAT, GREAT - 1]


def sizes_of(boxes):
    return [size for name, size in boxes]


class InterfaceTest(unittest.TestCase):
    def test_names_and_arguments(self):
        asked = {
            "start_of": ["boxes"],
            "states_of": ["boxes"],
            "worth": ["boxes", "state", "operand"],
            "reckoned": ["boxes", "state", "reckoning"],
            "holds": ["boxes", "state", "test"],
            "put_into": ["boxes", "state", "name", "number"],
            "drawn": ["boxes", "state", "name", "weights"],
        }
        for name, arguments in asked.items():
            self.assertEqual(parameters_of(getattr(module, name)), arguments)


class StatesTest(unittest.TestCase):
    def hold(self, boxes):
        states = states_of(boxes)
        self.assertIs(type(states), list)
        self.assertEqual(states, list(product(*[range(size) for size in sizes_of(boxes)])))
        self.assertEqual(states, sorted(states))
        for state in states:
            self.assertIs(type(state), tuple)
            self.assertTrue(all(is_whole(number) for number in state))
        first = start_of(boxes)
        self.assertIs(type(first), tuple)
        self.assertTrue(all(is_whole(number) for number in first))
        self.assertEqual(first, (0,) * len(boxes))
        self.assertEqual(first, states[0])
        return states

    def test_no_boxes(self):
        self.assertEqual(self.hold(()), [()])
        self.assertEqual(start_of(()), ())

    def test_one_box(self):
        self.assertEqual(self.hold((("end", 1),)), [(0,)])
        self.assertEqual(self.hold((("a", 4),)), [(0,), (1,), (2,), (3,)])
        self.assertEqual(len(self.hold((("a", 9),))), 9)

    def test_the_last_box_turns_first(self):
        self.assertEqual(self.hold(TWO), [(0, 0), (0, 1), (1, 0), (1, 1), (2, 0), (2, 1)])

    def test_boxes_of_size_one_among_others(self):
        self.assertEqual(self.hold((("a", 1), ("b", 2), ("c", 1))), [(0, 0, 0), (0, 1, 0)])

    def test_order_is_the_boxes_not_the_names(self):
        self.assertEqual(self.hold((("z", 2), ("a", 3)))[:4], [(0, 0), (0, 1), (0, 2), (1, 0)])

    def test_nine_boxes(self):
        self.assertEqual(len(self.hold(tuple((name, 2) for name in "abcdefghi"))), 512)
        self.assertEqual(self.hold(tuple((name, 1) for name in "abcdefghi")), [(0,) * 9])

    def test_a_thousand_states(self):
        self.assertEqual(len(self.hold((("a", 5), ("b", 5), ("c", 5), ("d", 8)))), 1000)

    def test_a_told_list_is_the_askers_own(self):
        for boxes in ((), TWO):
            told = states_of(boxes)
            kept = list(told)
            told.reverse()
            told.append("more")
            self.assertEqual(states_of(boxes), kept)


class WorthTest(unittest.TestCase):
    def test_numbers(self):
        for number in NUMBERS:
            for boxes, state in (((), ()), (TWO, (2, 1))):
                told = worth(boxes, state, number)
                self.assertTrue(is_whole(told))
                self.assertEqual(told, number)

    def test_names(self):
        for state in states_of(TWO):
            self.assertEqual(worth(TWO, state, "a"), state[0])
            self.assertEqual(worth(TWO, state, "b"), state[1])

    def test_names_that_are_beginnings_of_one_another(self):
        state = (4, 3, 2, 1)
        self.assertEqual([worth(NEAR, state, name) for name, size in NEAR], [4, 3, 2, 1])
        self.assertEqual(worth(NEAR, state, "a"), 3)
        turned = tuple(reversed(NEAR))
        self.assertEqual([worth(turned, state, name) for name in ("ab", "a", "abc", "b")], [1, 2, 3, 4])

    def test_nine_boxes(self):
        boxes = tuple((name, 2) for name in "ihgfedcba")
        state = (0, 1, 1, 0, 1, 0, 0, 0, 1)
        self.assertEqual([worth(boxes, state, name) for name in "ihgfedcba"], list(state))


class ReckonedTest(unittest.TestCase):
    def test_one_operand(self):
        for number in NUMBERS:
            self.assertEqual(reckoned(TWO, (2, 1), (number,)), number)
        self.assertEqual(reckoned(TWO, (2, 1), ("a",)), 2)
        self.assertEqual(reckoned(TWO, (2, 1), ("b",)), 1)
        self.assertEqual(reckoned((), (), (7,)), 7)

    def test_two_numbers(self):
        for one in NUMBERS:
            for other in NUMBERS:
                told = [reckoned((), (), (one, sign, other)) for sign in ("+", "-", "*")]
                self.assertTrue(all(is_whole(number) for number in told))
                self.assertEqual(told, [one + other, one - other, one * other])

    def test_names(self):
        for state in states_of(TWO):
            a, b = state
            self.assertEqual(reckoned(TWO, state, ("a", "+", "b")), a + b)
            self.assertEqual(reckoned(TWO, state, ("a", "-", "b")), a - b)
            self.assertEqual(reckoned(TWO, state, ("b", "-", "a")), b - a)
            self.assertEqual(reckoned(TWO, state, ("a", "*", "b")), a * b)
            self.assertEqual(reckoned(TWO, state, ("a", "*", "a")), a * a)
            self.assertEqual(reckoned(TWO, state, ("a", "-", GREAT)), a - GREAT)
            self.assertEqual(reckoned(TWO, state, (GREAT, "*", "b")), GREAT * b)

    def test_what_it_comes_to_may_be_below_nought_or_beyond_the_size(self):
        self.assertEqual(reckoned(TWO, (0, 1), ("a", "-", "b")), -1)
        self.assertEqual(reckoned(TWO, (2, 1), ("a", "+", 1)), 3)


class HoldsTest(unittest.TestCase):
    def hold(self, boxes, state, one, other, worths):
        told = [holds(boxes, state, (one, sign, other)) for sign in ("=", "<", "#")]
        self.assertTrue(all(type(truth) is bool for truth in told))
        self.assertEqual(told, [worths[0] == worths[1], worths[0] < worths[1], worths[0] != worths[1]])

    def test_numbers(self):
        for one in NUMBERS:
            for other in NUMBERS:
                self.hold((), (), one, other, (one, other))

    def test_names(self):
        for state in states_of(NEAR[:3]):
            for (place, (one, size)) in enumerate(NEAR[:3]):
                for (far, (other, size)) in enumerate(NEAR[:3]):
                    self.hold(NEAR[:3], state, one, other, (state[place], state[far]))
                for number in (-1, 0, 2, 5, GREAT):
                    self.hold(NEAR[:3], state, one, number, (state[place], number))
                    self.hold(NEAR[:3], state, number, one, (number, state[place]))

    def test_told_ones(self):
        self.assertIs(holds(TWO, (1, 1), ("a", "=", "b")), True)
        self.assertIs(holds(TWO, (1, 1), ("a", "<", "b")), False)
        self.assertIs(holds(TWO, (1, 1), ("a", "#", "b")), False)
        self.assertIs(holds(TWO, (0, 1), ("a", "<", "b")), True)
        self.assertIs(holds(TWO, (2, 1), ("a", "<", "b")), False)
        self.assertIs(holds(TWO, (2, 1), ("a", "#", "b")), True)


class PutIntoTest(unittest.TestCase):
    def test_told_ones(self):
        self.assertEqual(put_into((("a", 3),), (0,), "a", -1), (2,))
        self.assertEqual(put_into(TWO, (1, 1), "a", 3), (0, 1))
        self.assertEqual(put_into(TWO, (1, 1), "b", -3), (1, 1))
        self.assertEqual(put_into(TWO, (1, 0), "b", 1), (1, 1))

    def test_remainders_and_the_other_boxes(self):
        boxes = (("a", 1), ("ab", 9), ("b", 7), ("abc", 4))
        for state in ((0, 0, 0, 0), (0, 8, 6, 3), (0, 3, 5, 1)):
            for place, (name, size) in enumerate(boxes):
                for number in list(range(-20, 21)) + NUMBERS:
                    told = put_into(boxes, state, name, number)
                    self.assertIs(type(told), tuple)
                    self.assertTrue(all(is_whole(one) for one in told))
                    self.assertTrue(0 <= told[place] < size)
                    self.assertEqual((number - told[place]) % size, 0)
                    self.assertEqual(told[:place] + told[place + 1:], state[:place] + state[place + 1:])

    def test_great_products(self):
        number = figures(120, Random(5))
        self.assertEqual(put_into((("a", 9),), (4,), "a", number), (number % 9,))
        self.assertEqual(put_into((("a", 9),), (4,), "a", -number), (-number % 9,))

    def test_the_state_handed_in_stays(self):
        state = (1, 1)
        put_into(TWO, state, "a", 2)
        self.assertEqual(state, (1, 1))


class DrawnTest(unittest.TestCase):
    def hold(self, boxes, state, name, weights):
        ways = drawn(boxes, state, name, weights)
        self.assertIs(type(ways), list)
        place = [box[0] for box in boxes].index(name)
        numbers = [number for number, weight in enumerate(weights) if weight > 0]
        self.assertEqual(len(ways), len(numbers))
        for number, way in zip(numbers, ways):
            self.assertIs(type(way), tuple)
            share, after = way
            self.assertTrue(is_fraction(share))
            self.assertEqual(Fraction(*share), Fraction(weights[number], sum(weights)))
            self.assertEqual(after, state[:place] + (number,) + state[place + 1:])
        self.assertEqual(sum(Fraction(*share) for share, after in ways), 1)
        return ways

    def test_told_ones(self):
        self.assertEqual(
            self.hold(TWO, (1, 1), "a", (1, 2, 3)), [((1, 6), (0, 1)), ((1, 3), (1, 1)), ((1, 2), (2, 1))]
        )
        self.assertEqual(self.hold(TWO, (1, 0), "b", (2, 6)), [((1, 4), (1, 0)), ((3, 4), (1, 1))])

    def test_weights_of_nought_are_left_out(self):
        self.assertEqual(self.hold(TWO, (1, 1), "a", (0, 0, 5)), [((1, 1), (2, 1))])
        self.assertEqual(self.hold(TWO, (1, 1), "a", (4, 0, 6)), [((2, 5), (0, 1)), ((3, 5), (2, 1))])
        self.assertEqual(self.hold(TWO, (1, 1), "a", (0, 3, 0)), [((1, 1), (1, 1))])

    def test_a_box_of_size_one(self):
        self.assertEqual(self.hold((("a", 1),), (0,), "a", (12,)), [((1, 1), (0,))])

    def test_near_names(self):
        for name, size in NEAR:
            self.hold(NEAR, (4, 3, 2, 1), name, (1, 0, 2, 3, 4))

    def test_nine_numbers(self):
        self.hold((("a", 2), ("b", 9)), (1, 4), "b", (9, 8, 7, 6, 5, 4, 3, 2, 1))
        self.hold((("a", 2), ("b", 9)), (1, 4), "b", (0, 0, 0, 0, 1, 0, 0, 0, 0))

    def test_weights_of_sixty_figures(self):
        rng = Random(9)
        for turn in range(20):
            weights = tuple(figures(60, rng) * 6 // 10 for number in range(9))
            self.hold((("a", 9),), (0,), "a", weights)
            shared = figures(50, rng)
            ways = self.hold((("a", 3),), (2,), "a", (shared, 0, 3 * shared))
            self.assertEqual(ways, [((1, 4), (0,)), ((3, 4), (2,))])

    def test_all_small_weights_in_lowest_terms(self):
        for weights in product(range(5), repeat=3):
            if sum(weights) > 0:
                for share, after in self.hold((("a", 3),), (0,), "a", weights):
                    self.assertEqual(gcd(*share), 1)

    def test_a_told_list_is_the_askers_own(self):
        told = drawn(TWO, (1, 1), "a", (1, 2, 3))
        kept = list(told)
        told.pop()
        told.reverse()
        self.assertEqual(drawn(TWO, (1, 1), "a", (1, 2, 3)), kept)


if __name__ == "__main__":
    unittest.main()
