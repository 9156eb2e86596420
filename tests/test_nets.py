import unittest
from fractions import Fraction
from random import Random

from checks import is_fraction, is_whole, pair_of, parameters_of
from flowing import net_by_words
from lots.boxes import states_of
from lots.errors import TooMany
from lots.nets import net_of
from lots.programs import is_program
from samples import ALWAYS, PASS, places_for, some_program

KINDS = ("pass", "set", "draw", "gain", "look", "if", "while", "times", "hand")
NEVER = (0, "=", 1)
AB = (("a", 3), ("b", 2))
COIN = (("a", 2),)
HALVES = ("draw", "a", (1, 1))
ONE = (1, 1)
NOUGHT = (0, 1)
# Boxes of which many states are drawn, one spot each.
WIDE = (("a", 9), ("b", 9), ("c", 9))
ALL = (("draw", "a", (1,) * 9), ("draw", "b", (1,) * 9), ("draw", "c", (1,) * 9))


def to(number):
    """A choice without gain that goes to one node."""
    return (NOUGHT, [(number, ONE)])


class NetTest(unittest.TestCase):
    def well_built(self, net, spots):
        self.assertIs(type(net), list)
        self.assertIs(type(spots), list)
        self.assertEqual(len(net), len(spots))
        self.assertEqual(len(set(spots)), len(spots))
        for node in net:
            self.assertIs(type(node), list)
            for choice in node:
                self.assertIs(type(choice), tuple)
                gain, parts = choice
                self.assertTrue(is_fraction(gain))
                self.assertIs(type(parts), list)
                numbers = [number for number, share in parts]
                self.assertEqual(numbers, sorted(set(numbers)))
                self.assertTrue(all(is_whole(number) and 0 <= number < len(net) for number in numbers))
                self.assertTrue(all(type(part) is tuple and is_fraction(part[1]) for part in parts))
                self.assertTrue(all(share[0] > 0 for number, share in parts))
                self.assertEqual(sum(Fraction(*share) for number, share in parts), 1)

    def hold(self, boxes, block, state):
        """Told as the words of the document ask, whatever order the spots stand in."""
        program = (boxes, block)
        self.assertIs(is_program(program), True)
        asked = net_by_words(program, state, 200)
        net, spots = net_of(program, state)
        self.well_built(net, spots)
        self.assertEqual(spots[0], (0, state))
        self.assertEqual(set(spots), set(asked))
        for choices, spot in zip(net, spots):
            told = [(gain, {spots[number]: share for number, share in parts}) for gain, parts in choices]
            words = [(pair_of(gain), {later: pair_of(share) for later, share in ways.items()})
                     for gain, ways in asked[spot]]
            self.assertEqual(told, words)
        self.assertEqual(net_of(program, state), (net, spots))
        return net, spots

    def too_many(self, boxes, block, state):
        self.assertIs(is_program((boxes, block)), True)
        with self.assertRaises(TooMany):
            net_of((boxes, block), state)

    def count(self, boxes, block, state, count):
        self.assertEqual(len(self.hold(boxes, block, state)[1]), count)


class DeedsTest(NetTest):
    def test_names_and_arguments(self):
        self.assertEqual(parameters_of(net_of), ["program", "state"])

    def test_the_empty_program(self):
        self.assertEqual(self.hold((), (), ()), ([[]], [(0, ())]))
        self.assertEqual(self.hold(AB, (), (2, 1)), ([[]], [(0, (2, 1))]))

    def test_what_goes_on_by_itself(self):
        self.assertEqual(self.hold(AB, (PASS,), (2, 1)), ([[to(1)], []], [(0, (2, 1)), (1, (2, 1))]))
        self.assertEqual(self.hold(AB, (("set", "a", ("b", "-", 2)),), (0, 1)),
                         ([[to(1)], []], [(0, (0, 1)), (1, (2, 1))]))
        self.assertEqual(self.hold(AB, (("set", "a", (999999999, "*", 999999999)),), (1, 1)),
                         ([[to(1)], []], [(0, (1, 1)), (1, (0, 1))]))

    def test_gains_are_fractions(self):
        self.assertEqual(self.hold(AB, (("gain", 7),), (2, 1))[0], [[((7, 1), [(1, ONE)])], []])
        self.assertEqual(self.hold(AB, (("gain", "a"),), (2, 1))[0], [[((2, 1), [(1, ONE)])], []])
        self.assertEqual(self.hold(AB, (("gain", "a"),), (0, 1))[0], [[((0, 1), [(1, ONE)])], []])
        self.assertEqual(self.hold(AB, (("gain", 999999999),), (0, 1))[0], [[((999999999, 1), [(1, ONE)])], []])

    def test_look(self):
        look = ("look", ("a", "=", 1))
        self.assertEqual(self.hold(AB, (look,), (1, 0)), ([[to(1)], []], [(0, (1, 0)), (1, (1, 0))]))
        self.assertEqual(self.hold(AB, (look,), (2, 0)), ([[to(1)], []], [(0, (2, 0)), None]))

    def test_what_is_thrown_away_is_one_spot(self):
        net, spots = self.hold(AB, (("draw", "a", (1, 1, 1)), ("look", ("a", "=", 1)), ("look", NEVER)), (0, 0))
        self.assertEqual(spots.count(None), 1)
        self.assertEqual(net[spots.index(None)], [])
        self.assertEqual(len(spots), 6)

    def test_if(self):
        block = (("if", ("a", "<", "b"), (PASS,), (("gain", 1),)),)
        self.assertEqual(self.hold(AB, block, (0, 1))[1][1], (1, (0, 1)))
        self.assertEqual(self.hold(AB, block, (1, 1))[1][1], (2, (1, 1)))

    def test_draw(self):
        net, spots = self.hold(AB, (("draw", "a", (1, 0, 2)),), (1, 1))
        self.assertEqual(sorted(spots), [(0, (1, 1)), (1, (0, 1)), (1, (2, 1))])
        shares = {spots[number]: share for number, share in net[0][0][1]}
        self.assertEqual(shares, {(1, (0, 1)): (1, 3), (1, (2, 1)): (2, 3)})
        self.assertEqual(net[0][0][0], NOUGHT)

    def test_a_draw_that_comes_to_one_spot(self):
        self.assertEqual(self.hold(AB, (("draw", "a", (0, 0, 5)),), (1, 1)),
                         ([[to(1)], []], [(0, (1, 1)), (1, (2, 1))]))
        self.assertEqual(self.hold((("a", 1),), (("draw", "a", (7,)),), (0,)), ([[to(1)], []], [(0, (0,)), (1, (0,))]))

    def test_a_draw_that_comes_back_to_itself(self):
        net, spots = self.hold(COIN, (("while", ALWAYS, (("draw", "a", (1, 3)),)),), (0,))
        self.assertEqual(len(spots), 4)
        inner = [node for node, spot in enumerate(spots) if spot[0] == 1]
        for node in inner:
            self.assertEqual(sorted(share for number, share in net[node][0][1]), [(1, 4), (3, 4)])

    def test_parts_stand_by_rising_numbers(self):
        # The second draw comes to spots that were numbered before, in an order that is not the draw's own.
        first = (("draw", "a", (0, 0, 1)), ("draw", "a", (1, 1, 1)))
        block = (("while", ALWAYS, first + (("if", ("a", "=", 1), (("set", "a", (0,)),), ()),)),)
        self.hold(AB, block, (2, 0))
        self.hold(AB, (("while", ("a", "#", 2), (("draw", "a", (1, 1, 1)),)),), (1, 0))

    def test_hand(self):
        net, spots = self.hold((), (("hand", ((("gain", 1),), (("gain", 2),))),), ())
        self.assertEqual(net[0], [to(spots.index((1, ()))), to(spots.index((2, ())))])
        self.assertEqual(len(spots), 4)

    def test_alike_choices_of_a_hand_stand_each(self):
        self.assertEqual(self.hold((), (("hand", ((), ())),), ()), ([[to(1), to(1)], []], [(0, ()), (1, ())]))
        self.assertEqual(self.hold((), (("hand", ((),) * 8),), ())[0], [[to(1)] * 8, []])
        net, spots = self.hold((), (("hand", ((), (("gain", 1),), ())),), ())
        end = spots.index((2, ()))
        self.assertEqual(net[0], [to(end), to(spots.index((1, ()))), to(end)])

    def test_while(self):
        self.assertEqual(self.hold((), (("while", NEVER, (PASS,)),), ()), ([[to(1)], []], [(0, ()), (2, ())]))
        net, spots = self.hold(AB, (("while", ("a", "#", 2), (("set", "a", ("a", "+", 1)),)),), (0, 0))
        self.assertEqual(len(spots), 6)

    def test_a_while_that_never_ends(self):
        self.assertEqual(self.hold((), (("while", ALWAYS, ()),), ()), ([[to(0)]], [(0, ())]))
        self.assertEqual(self.hold((), (("while", ALWAYS, (("gain", 3),)),), ()),
                         ([[to(1)], [((3, 1), [(0, ONE)])]], [(0, ()), (1, ())]))

    def test_only_what_can_be_come_to(self):
        behind = (("look", NEVER), ("draw", "a", (1, 1, 1)), ("gain", 1))
        self.assertEqual(self.hold(AB, behind, (0, 0)), ([[to(1)], []], [(0, (0, 0)), None]))
        self.assertEqual(len(self.hold(AB, (("if", ALWAYS, (), (("hand", ((PASS,), ())),)),), (0, 0))[1]), 2)
        self.assertEqual(len(self.hold(AB, (("draw", "a", (0, 1, 0)), ("draw", "b", (1, 0))), (2, 1))[1]), 3)


class ProgramsTest(NetTest):
    def test_each_deed_at_every_place_from_every_state(self):
        for deed in (PASS, ("set", "a", ("a", "+", "b")), ("draw", "a", (1, 0, 2)), ("gain", "a"),
                     ("look", ("a", "#", "b")), ("if", ("a", "<", "b"), (("gain", 1),), (("set", "b", (1,)),)),
                     ("while", ("a", "#", "b"), (("draw", "a", (1, 2, 3)),)),
                     ("times", 2, (("draw", "b", (1, 2)),)), ("hand", ((("set", "a", (0,)),), (("gain", "b"),)))):
            for block in places_for(deed):
                for state in states_of(AB):
                    self.hold(AB, block + (("gain", "a"),), state)

    def test_any_programs(self):
        rng = Random(41)
        seen = 0
        for turn in range(600):
            boxes, block = some_program(rng, KINDS)
            if not is_program((boxes, block)):
                continue
            state = rng.choice(states_of(boxes))
            if net_by_words((boxes, block), state, 200) is None:
                self.too_many(boxes, block, state)
            else:
                seen += 1
                self.hold(boxes, block, state)
        self.assertGreater(seen, 200)

    def test_two_hundred_spots(self):
        self.count(COIN, (HALVES,) + (PASS,) * 98, (0,), 199)
        self.count(COIN, (PASS, HALVES) + (PASS,) * 98, (0,), 200)
        self.too_many(COIN, (HALVES,) + (PASS,) * 99, (0,))

    def test_what_is_thrown_away_counts_as_a_spot(self):
        self.count(COIN, (PASS, HALVES) + (PASS,) * 97 + (("look", ("a", "=", 1)),), (0,), 200)
        self.too_many(COIN, (HALVES,) + (PASS,) * 98 + (("look", ("a", "=", 1)),), (0,))

    def test_only_what_can_be_come_to_counts(self):
        self.count(COIN, (PASS, ("draw", "a", (0, 1))) + (PASS,) * 98, (0,), 101)
        self.count(WIDE, (("look", NEVER),) + ALL, (0, 0, 0), 2)
        self.count(WIDE, (("times", 0, ALL),), (0, 0, 0), 1)

    def test_two_hundred_spots_of_a_loop(self):
        # Three stops at each state, and one more, ahead of the turn's end, wherever b has come round to 0.
        turn = ("set", "b", ("b", "+", 1))
        block = (("while", ALWAYS, (turn, ("if", ("b", "=", 0), (("set", "a", ("a", "+", 1)),), ()))),)
        self.count((("a", 8), ("b", 8)), block, (0, 0), 3 * 64 + 8)
        self.too_many((("a", 8), ("b", 9)), block, (0, 0))

    def test_very_many_spots(self):
        self.too_many(WIDE, ALL, (0, 0, 0))
        self.too_many(WIDE, ALL + (PASS,) * 97, (0, 0, 0))
        self.too_many(WIDE, (("while", ALWAYS, ALL * 33),), (0, 0, 0))
        self.too_many(WIDE, (("while", ALWAYS, (("hand", (ALL, ALL)),)),), (0, 0, 0))

    def test_a_refusal_leaves_nothing_behind(self):
        for turn in range(3):
            self.too_many(WIDE, ALL, (0, 0, 0))
            self.count(COIN, (PASS, HALVES) + (PASS,) * 98, (0,), 200)

    def test_told_lists_are_the_askers_own(self):
        program = (COIN, (HALVES, ("hand", ((), (PASS,), ())), ("gain", 1)))
        told = net_of(program, (0,))
        kept = repr(told)
        net, spots = told
        for choices in net:
            for gain, parts in choices:
                parts.append(7)
            choices.clear()
        net.append([])
        spots.reverse()
        self.assertEqual(repr(net_of(program, (0,))), kept)
        self.assertEqual(program, (COIN, (HALVES, ("hand", ((), (PASS,), ())), ("gain", 1))))

    def test_no_list_stands_twice_in_a_net(self):
        net, spots = net_of((COIN, (HALVES, ("hand", ((), (PASS,), ())))), (0,))
        lists = [net] + net + [parts for choices in net for gain, parts in choices]
        self.assertEqual(len({id(one) for one in lists}), len(lists))


if __name__ == "__main__":
    unittest.main()
