import unittest
from fractions import Fraction
from itertools import product
from random import Random

from checks import is_fraction, is_whole, pair_of, parameters_of
from flowing import flow_by_words, net_by_words
from lots.alike import laid, rounds
from lots.boxes import start_of, states_of
from lots.chains import arrivals, for_ever, gain_ring, means
from lots.desk import best_told, mean_given, mean_told, shares_given, shares_told
from lots.errors import HandLeft, NoneKept, NoProgram, NoText, TooMany
from lots.folds import fold_back
from lots.nets import net_of
from lots.programs import has_hand, is_bounded, is_program
from lots.reading import read
from lots.runs import best_of, ends_of, runs_of
from lots.showing import shown
from lots.stores import Store
from lots.trees import tree_of
from netting import runs_from
from samples import PASS, places_for, some_program

NOUGHT = (0, 1)
ONE = (1, 1)
NEVER = (0, "=", 1)
COIN = (("a", 2),)
HALVES = ("draw", "a", (1, 1))
WITHOUT_HAND = (shares_told, shares_given, mean_told, mean_given)
LONG = (PASS,) * 98
# More states than a net has spots.
WIDE = (("a", 9), ("b", 9), ("c", 9))
ALL = tuple(("draw", name, (1,) * 9) for name in "abc")


def rows(*some):
    return "\n".join(some)


# A coin is thrown till it shows 1; each throw gains 1.
TILL_ONE = rows("box a 2", "while a = 0", "gain 1", "draw a 1 1", "end")
# A third each: ends, is thrown away with 4, goes on for ever.
THREE = rows("box a 3", "draw a 1 1 1", "gain 4", "look a # 1", "while a = 2", "pass", "end", "gain 2")


def chain_from(program):
    """The chain of a program without hands, from the words of the document; None where it has too many spots."""
    return net_by_words(program, start_of(program[0]), 200)


class ToldTest(unittest.TestCase):
    def tell(self, block, boxes=COIN):
        """All that the desk tells of a program without hands, held against its chain taken apart node by node."""
        program = (boxes, block)
        text = shown(program)
        start = (0, start_of(boxes))
        ends, ever, mean = runs_from(chain_from(program), start)
        lost, lost_gain = ends.pop(None, (Fraction(0), Fraction(0)))
        kept = sorted((spot[1], pair_of(share)) for spot, (share, gained) in ends.items())
        told = shares_told(text)
        self.assertIs(type(told), tuple)
        self.assertEqual(told, (kept, pair_of(lost), pair_of(ever)))
        self.assertEqual(sum(Fraction(*share) for state, share in told[0]) + Fraction(*told[1]) + Fraction(*told[2]), 1)
        self.assertEqual(mean_told(text), None if mean is None else pair_of(mean))
        self.assertEqual(best_told(text), (mean_told(text), []))
        self.given(text, ends)
        return told, mean_told(text)

    def given(self, text, ends):
        whole = sum((share for share, gained in ends.values()), Fraction(0))
        if not ends:
            for ask in (shares_given, mean_given):
                with self.assertRaises(NoneKept):
                    ask(text)
            return
        asked = sorted((spot[1], pair_of(share / whole)) for spot, (share, gained) in ends.items())
        self.assertEqual(shares_given(text), asked)
        self.assertEqual(mean_given(text), pair_of(sum(gained for share, gained in ends.values()) / whole))


class SharesTest(ToldTest):
    def test_names_and_arguments(self):
        for ask in WITHOUT_HAND + (best_told,):
            self.assertEqual(parameters_of(ask), ["text"])

    def test_kinds(self):
        for text in (TILL_ONE, THREE, ""):
            ends, lost, ever = shares_told(text)
            self.assertIs(type(ends), list)
            self.assertIs(type(shares_given(text)), list)
            for some in (ends, shares_given(text)):
                self.assertTrue(all(type(one) is tuple and type(one[0]) is tuple for one in some))
                self.assertTrue(all(is_fraction(share) for state, share in some))
            self.assertTrue(is_fraction(lost) and is_fraction(ever))
            self.assertTrue(is_fraction(mean_told(text)) and is_fraction(mean_given(text)))

    def test_the_text_without_signs(self):
        self.assertEqual(shares_told(""), ([((), ONE)], NOUGHT, NOUGHT))
        self.assertEqual(shares_given(""), [((), ONE)])
        self.assertEqual(mean_told(""), NOUGHT)
        self.assertEqual(mean_given(""), NOUGHT)
        self.assertEqual(best_told(""), (NOUGHT, []))

    def test_boxes_begin_with_nought(self):
        self.assertEqual(shares_told("box a 3\nbox b 2"), ([((0, 0), ONE)], NOUGHT, NOUGHT))
        self.assertEqual(shares_told("box a 3\nset a a - 1"), ([((2,), ONE)], NOUGHT, NOUGHT))

    def test_draws(self):
        text = rows("box a 2", "box b 3", "draw b 1 0 2", "draw a 3 1")
        asked = [((0, 0), (1, 4)), ((0, 2), (1, 2)), ((1, 0), (1, 12)), ((1, 2), (1, 6))]
        self.assertEqual(shares_told(text), (asked, NOUGHT, NOUGHT))
        self.assertEqual(shares_given(text), asked)

    def test_a_loop_that_ends_at_last(self):
        self.assertEqual(shares_told(TILL_ONE), ([((1,), ONE)], NOUGHT, NOUGHT))
        self.assertEqual(mean_told(TILL_ONE), (2, 1))
        self.assertEqual(mean_given(TILL_ONE), (2, 1))
        self.assertEqual(best_told(TILL_ONE), ((2, 1), []))

    def test_ends_what_is_thrown_away_and_what_goes_on(self):
        self.assertEqual(shares_told(THREE), ([((0,), (1, 3))], (1, 3), (1, 3)))
        self.assertEqual(shares_given(THREE), [((0,), ONE)])
        self.assertEqual(mean_told(THREE), (14, 3))
        self.assertEqual(mean_given(THREE), (6, 1))

    def test_a_loop_that_never_ends(self):
        for text in ("while 0 = 0\nend", "while 0 = 0\npass\nend", "box a 2\nwhile a = 0\nend"):
            self.assertEqual(shares_told(text), ([], NOUGHT, ONE))
            self.assertEqual(mean_told(text), NOUGHT)
            self.assertEqual(best_told(text), (NOUGHT, []))
        self.assertEqual(mean_told("while 0 = 0\ngain 1\nend"), None)
        self.assertEqual(mean_told("while 0 = 0\ngain 0\nend"), NOUGHT)
        self.assertEqual(best_told("while 0 = 0\ngain 1\nend"), (None, []))

    def test_without_end_by_some_runs_alone(self):
        text = rows("box a 2", "gain 6", "draw a 999999999 1", "while a = 1", "gain 1", "end")
        self.assertEqual(mean_told(text), None)
        self.assertEqual(mean_given(text), (6, 1))
        self.assertEqual(shares_told(text), ([((0,), (999999999, 10 ** 9))], NOUGHT, (1, 10 ** 9)))

    def test_what_is_thrown_away_keeps_what_it_gained(self):
        text = rows("box a 2", "draw a 1 1", "gain 10", "look a = 0", "gain 1")
        self.assertEqual(mean_told(text), (21, 2))
        self.assertEqual(mean_given(text), (11, 1))

    def test_a_die_by_a_coin(self):
        # Three throws of a coin tell a number from 0 to 7; 6 and 7 are thrown again.
        text = rows("box a 2", "box b 2", "box c 2", "box d 2", "while d = 0", "draw a 1 1", "draw b 1 1", "draw c 1 1",
                    "set d 1", "if a = 1", "if b = 1", "set d 0", "else", "end", "else", "end", "end")
        sixths = [((a, b, c, 1), (1, 6)) for a in range(2) for b in range(2) for c in range(2) if not (a and b)]
        self.assertEqual(shares_told(text), (sixths, NOUGHT, NOUGHT))

    def test_each_deed_at_every_place(self):
        boxes = (("a", 3), ("b", 2))
        for deed in (PASS, ("set", "a", ("b", "-", 1)), ("draw", "a", (1, 0, 2)), ("gain", 5), ("look", ("a", "#", 2)),
                     ("if", ("a", "<", "b"), (("gain", 1),), (("set", "b", (1,)),)), ("times", 2, (("gain", 1),)),
                     ("while", ("a", "=", "b"), (("draw", "a", (1, 2, 3)), ("gain", "a")))):
            for block in places_for(deed):
                if not has_hand(block):
                    self.tell((("draw", "b", (1, 1)), ("draw", "a", (2, 1, 1))) + block, boxes)

    def test_any_programs(self):
        rng = Random(90)
        seen = endless = lost = 0
        for turn in range(500):
            program = some_program(rng, ("set", "draw", "draw", "gain", "look", "if", "while", "while", "times"))
            if is_program(program) and chain_from(program) is not None:
                seen += 1
                told, mean = self.tell(program[1], program[0])
                endless += mean is None
                lost += told[1] != NOUGHT
        self.assertGreater(seen, 200)
        self.assertGreater(endless, 5)
        self.assertGreater(lost, 20)

    def test_told_lists_are_the_askers_own(self):
        for ask in (shares_told, shares_given):
            kept = repr(ask(THREE))
            told = ask(THREE)
            (told if ask is shares_given else told[0]).clear()
            self.assertEqual(repr(ask(THREE)), kept)
        told = best_told("hand\nor\nend")
        told[1].clear()
        self.assertEqual(len(best_told("hand\nor\nend")[1]), 1)


class StepsTest(unittest.TestCase):
    def test_runs_of_more_and_more_steps_come_to_the_shares(self):
        """Each end's share of runs of so many steps rises and comes to the told one."""
        for block in ((("while", ("a", "=", 0), (("draw", "a", (2, 1, 1)), ("look", ("a", "#", 2)))),),
                      (("draw", "a", (1, 1, 1)), ("while", ("a", "=", 1), (("draw", "b", (1, 1)),
                       ("if", ("b", "=", 1), (("draw", "a", (1, 1, 1)),), ()))), ("while", ("a", "=", 2), ()))):
            program = ((("a", 3), ("b", 2)), block)
            net = chain_from(program)
            told = {state: Fraction(*share) for state, share in shares_told(shown(program))[0]}
            here = {(0, (0, 0)): Fraction(1)}
            last = len(flow_by_words(program)) - 1
            before = dict.fromkeys(told, Fraction(0))
            for step in range(300):
                later = {}
                for spot, share in here.items():
                    for goal, part in (net[spot][0][1] if net[spot] else {spot: Fraction(1)}).items():
                        later[goal] = later.get(goal, 0) + share * part
                here = later
                now = {state: here.get((last, state), Fraction(0)) for state in told}
                for state in told:
                    self.assertTrue(before[state] <= now[state] <= told[state])
                before = now
            for state in told:
                self.assertLess(told[state] - before[state], Fraction(1, 10 ** 6))


class HandTest(unittest.TestCase):
    def tell(self, program):
        """The best of a program, held against all ways to pick where they are few, and its picks in any case."""
        text = shown(program)
        net = net_by_words(program, start_of(program[0]), 200)
        flow = flow_by_words(program)
        start = (0, start_of(program[0]))
        number, picks = told = best_told(text)
        self.assertIs(type(told), tuple)
        self.assertIs(type(picks), list)
        spots = sorted(spot for spot in net if spot is not None and flow[spot[0]][0] == "hand")
        self.assertEqual([pick[:2] for pick in picks], spots)
        self.assertTrue(all(type(pick) is tuple and is_whole(pick[2]) for pick in picks))
        self.assertEqual(number, self.mean_by(net, start, picks))
        ways = [range(len(net[spot])) for spot in spots]
        count = 1
        for some in ways:
            count *= len(some)
        if count <= 100:
            some = [self.mean_by(net, start, [spot + (place,) for spot, place in zip(spots, places)])
                    for places in product(*ways)]
            self.assertEqual(number, None if None in some else max(some, key=lambda one: Fraction(*one)))
        return number, picks

    def mean_by(self, net, start, picks):
        places = {pick[:2]: pick[2] for pick in picks}
        chain = {spot: [choices[places.get(spot, 0)]] if choices else [] for spot, choices in net.items()}
        found = {start: chain[start]}
        waiting = [start]
        while waiting:
            for gain, ways in chain[waiting.pop()]:
                for spot in ways:
                    if spot not in found:
                        found[spot] = chain[spot]
                        waiting.append(spot)
        mean = runs_from(found, start)[2]
        return None if mean is None else pair_of(mean)

    def test_told_ones(self):
        text = rows("hand", "gain 1", "or", "gain 3", "or", "gain 2", "end")
        self.assertEqual(best_told(text), ((3, 1), [(0, (), 1)]))
        text = rows("box a 3", "draw a 1 1 1", "hand", "gain a", "or", "gain 1", "end", "gain 10")
        number, picks = best_told(text)
        self.assertEqual(number, (34, 3))
        self.assertEqual([pick[:2] for pick in picks], [(1, (0,)), (1, (1,)), (1, (2,))])
        self.assertEqual((picks[0][2], picks[2][2]), (1, 0))

    def test_throw_again_or_take_it(self):
        # A third of the runs that throw again is thrown away, with nothing gained.
        text = rows("box a 6", "box b 2", "draw a 1 1 1 1 1 1", "while b = 0", "hand", "set b 1", "or",
                    "draw b 2 1", "look b = 0", "draw a 1 1 1 1 1 1", "end", "end", "gain a")
        # 0 and 1 are thrown again, the others taken: x = (2 (2/3) x + 2 + 3 + 4 + 5) / 6.
        number, picks = self.tell(read(text))
        self.assertEqual(number, (3, 1))
        self.assertEqual([place for stop, state, place in picks], [1, 1, 0, 0, 0, 0])

    def test_without_end(self):
        self.assertEqual(best_told(rows("while 0 = 0", "hand", "gain 1", "or", "pass", "end", "end"))[0], None)
        number, picks = best_told(rows("hand", "gain 9", "or", "while 0 = 0", "gain 1", "end", "end"))
        self.assertEqual((number, picks), (None, [(0, (), 1)]))
        number, picks = best_told(rows("hand", "while 0 = 0", "pass", "end", "or", "gain 1", "end"))
        self.assertEqual((number, picks), (ONE, [(0, (), 1)]))

    def test_a_hand_that_is_never_come_to_has_no_picks(self):
        self.assertEqual(best_told(rows("gain 2", "times 0", "hand", "or", "end", "end")), ((2, 1), []))
        self.assertEqual(best_told(rows("gain 2", "look 0 = 1", "hand", "or", "end")), ((2, 1), []))
        self.assertEqual(best_told(rows("if 0 = 0", "gain 1", "else", "hand", "or", "end", "end")), (ONE, []))

    def test_a_program_without_hands_has_no_picks(self):
        self.assertEqual(best_told(THREE), ((14, 3), []))

    def test_each_turn_of_times_has_its_own_picks(self):
        number, picks = best_told(rows("times 3", "hand", "gain 1", "or", "end", "end"))
        self.assertEqual((number, picks), ((3, 1), [(0, (), 0), (2, (), 0), (4, (), 0)]))

    def test_any_programs(self):
        rng = Random(91)
        seen = 0
        for turn in range(600):
            program = some_program(rng, ("set", "draw", "gain", "gain", "look", "if", "while", "times", "hand", "hand"))
            if not is_program(program) or not has_hand(program[1]):
                continue
            net = net_by_words(program, start_of(program[0]), 200)
            if net is not None and len(net) <= 80:
                seen += 1
                self.tell(program)
        self.assertGreater(seen, 100)

    def test_many_spots(self):
        # Nine throws, each but the last one taken or thrown anew.
        throw = "draw a 1 1 1 1 1 1"
        number, picks = best_told(rows("box a 6", throw, "times 8", "hand", "or", throw, "end", "end", "gain a"))
        best = Fraction(5, 2)
        for turn in range(8):
            best = sum(max(Fraction(one), best) for one in range(6)) / 6
        self.assertEqual(number, pair_of(best))
        self.assertEqual(len(picks), 48)


class RefusalsTest(unittest.TestCase):
    def refuse(self, refusal, text, asks):
        for ask in asks:
            with self.assertRaises(refusal):
                ask(text)

    def test_no_text(self):
        for text in ("box", "pass ", " pass", "end", "hand\nend", "while 0 = 0", "gain -1", "\n", "hand\nor\nend\nor"):
            self.refuse(NoText, text, WITHOUT_HAND + (best_told,))

    def test_no_program(self):
        for text in ("box a 0", "box a 2\nbox a 2", "set a 1", "times 61\nend", "box a 2\ndraw a 0 0",
                     "\n".join(["pass"] * 101), "times 0\nhand\nor\ngain x\nend\nend"):
            self.refuse(NoProgram, text, WITHOUT_HAND + (best_told,))

    def test_hand_left(self):
        for block in places_for(("hand", ((), ()))) + [(("look", NEVER), ("hand", ((), ())))]:
            text = shown(((), block))
            self.refuse(HandLeft, text, WITHOUT_HAND)
            best_told(text)

    def test_too_many(self):
        # 199 spots and 200 are told, 201 are not.
        for block in ((HALVES,) + LONG, (PASS, HALVES) + LONG):
            for ask in WITHOUT_HAND + (best_told,):
                ask(shown((COIN, block)))
        self.refuse(TooMany, shown((COIN, (HALVES,) + LONG + (PASS,))), WITHOUT_HAND + (best_told,))
        self.refuse(TooMany, shown((WIDE, ALL + LONG[1:])), WITHOUT_HAND + (best_told,))
        self.refuse(TooMany, shown((WIDE, (("hand", (ALL, ())),))), (best_told,))

    def test_two_hundred_spots_are_told(self):
        text = shown((COIN, (PASS, ("draw", "a", (1, 3))) + (("gain", "a"),) * 98))
        self.assertEqual(shares_told(text), ([((0,), (1, 4)), ((1,), (3, 4))], NOUGHT, NOUGHT))
        self.assertEqual(mean_told(text), (147, 2))
        self.assertEqual(mean_given(text), (147, 2))
        self.assertEqual(best_told(text), ((147, 2), []))

    def test_none_kept(self):
        for text in ("look 0 = 1", "while 0 = 0\nend", "box a 2\ndraw a 1 1\nwhile a = 1\nend\nlook a = 1"):
            self.refuse(NoneKept, text, (shares_given, mean_given))
            self.assertEqual(shares_told(text)[0], [])
            self.assertEqual(mean_told(text), NOUGHT)
            self.assertEqual(best_told(text), (NOUGHT, []))

    def test_no_text_goes_ahead_of_no_program(self):
        self.refuse(NoText, "box a 0\nhand\nend", WITHOUT_HAND + (best_told,))

    def test_no_program_goes_ahead_of_hand_left(self):
        self.refuse(NoProgram, "gain x\nhand\nor\nend", WITHOUT_HAND + (best_told,))

    def test_hand_left_goes_ahead_of_too_many(self):
        for last in (("hand", ((), ())), ("times", 0, (("hand", ((), ())),))):
            text = shown((WIDE, ALL + (last,)))
            self.refuse(HandLeft, text, WITHOUT_HAND)
            self.refuse(TooMany, text, (best_told,))

    def test_hand_left_goes_ahead_of_none_kept(self):
        self.refuse(HandLeft, "look 0 = 1\nhand\nor\nend", WITHOUT_HAND)

    def test_too_many_goes_ahead_of_none_kept(self):
        text = shown((WIDE, ALL + (("look", NEVER),)))
        self.refuse(TooMany, text, WITHOUT_HAND + (best_told,))

    def test_a_refusal_leaves_nothing_behind(self):
        for turn in range(2):
            self.refuse(NoneKept, "look 0 = 1", (shares_given, mean_given))
            self.assertEqual(mean_given(THREE), (6, 1))


class WholeTest(unittest.TestCase):
    """The tree of runs, the graph folded back and the net tell the same."""

    def test_shares(self):
        rng = Random(92)
        seen = 0
        for turn in range(300):
            program = some_program(rng, ("pass", "set", "draw", "draw", "gain", "look", "if", "times"))
            if not is_program(program):
                continue
            start = start_of(program[0])
            try:
                tree = tree_of(program, start)
                told = shares_told(shown(program))
            except TooMany:
                continue
            seen += 1
            store = Store(program[0])
            graph = [(state, store.value_at(fold_back(store, program[1], store.point(state), False), start))
                     for state in states_of(program[0])]
            ends, lost = ends_of(tree)
            self.assertEqual([one for one in graph if one[1] != NOUGHT], ends)
            self.assertEqual(told, (ends, lost, NOUGHT))
            self.assertEqual(mean_told(shown(program)), best_of(tree))
            self.given(shown(program), runs_of(tree))
        self.assertGreater(seen, 120)

    def given(self, text, runs):
        kept = [(Fraction(*share), gain) for marks, share, state, gain in runs if state is not None]
        whole = sum(share for share, gain in kept)
        if kept:
            self.assertEqual(mean_given(text), pair_of(sum(share * gain for share, gain in kept) / whole))
        else:
            with self.assertRaises(NoneKept):
                mean_given(text)

    def test_alike_nodes_laid_together_change_no_share_and_no_mean(self):
        rng = Random(94)
        fewer = 0
        for turn in range(200):
            program = some_program(rng, ("set", "draw", "draw", "gain", "look", "if", "while", "times"))
            if not is_program(program) or chain_from(program) is None:
                continue
            net, spots = net_of(program, start_of(program[0]))
            # Ends bear marks of their own, all other nodes the same one.
            marks = [0 if choices else 1 + node for node, choices in enumerate(net)]
            classes = rounds(net, marks)[-1]
            small = laid(net, classes)
            fewer += len(small) < len(net)
            text = shown(program)
            self.assertEqual(means(small)[classes[0]], mean_told(text))
            self.assertEqual(for_ever(small)[classes[0]], shares_told(text)[2])
            ends = [(spot[1], arrivals(small, [classes[node]])[classes[0]])
                    for node, spot in enumerate(spots) if spot is not None and not net[node]]
            self.assertEqual(sorted(ends), shares_told(text)[0])
        self.assertGreater(fewer, 20)

    def test_a_mean_without_end_has_its_ring(self):
        text = rows("box a 2", "gain 6", "draw a 999999999 1", "while a = 1", "gain 1", "end")
        net, spots = net_of(read(text), (0,))
        way, ring = gain_ring(net, 0)
        self.assertEqual(sorted(spots[node] for node in ring), [(2, (1,)), (3, (1,))])
        self.assertEqual([spots[node][0] for node in way[:3]], [0, 1, 2])

    def test_best(self):
        rng = Random(93)
        seen = 0
        for turn in range(500):
            program = some_program(rng, ("set", "draw", "draw", "gain", "gain", "look", "if", "times", "hand", "hand"))
            if not is_program(program):
                continue
            start = start_of(program[0])
            try:
                tree = tree_of(program, start)
                told = best_told(shown(program))
            except TooMany:
                continue
            seen += 1
            self.assertIs(is_bounded(program[1]), True)
            store = Store(program[0])
            graph = store.value_at(fold_back(store, program[1], store.leaf(NOUGHT), True), start)
            self.assertEqual((told[0], graph), (best_of(tree), best_of(tree)))
        self.assertGreater(seen, 150)


if __name__ == "__main__":
    unittest.main()
