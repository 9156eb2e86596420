import unittest
from random import Random

from checks import parameters_of
from lots.errors import LotsError, NoProgram, NoText
from lots.programs import is_program
from lots.reading import read
from lots.showing import shown
from samples import ALWAYS, PASS, WORDS, nested, places_for, some_program

KINDS = ("pass", "set", "draw", "gain", "look", "if", "while", "times", "hand")
MOST = 999999999


def text_of(*rows):
    return "\n".join(rows)


def opened(depth, openers, core):
    """Rows in which so many deeds are open at once, by the openers in turn."""
    rows = list(core)
    for step in range(depth):
        kind = openers[step % len(openers)]
        if kind == "hand":
            rows = ["hand"] + rows + ["or", "end"]
        elif kind == "or":
            rows = ["hand", "or"] + rows + ["end"]
        elif kind == "else":
            rows = ["if 0 = 0", "else"] + rows + ["end"]
        elif kind == "if":
            rows = ["if 0 = 0"] + rows + ["else", "end"]
        elif kind == "times":
            rows = ["times 1"] + rows + ["end"]
        else:
            rows = ["while 0 = 0"] + rows + ["end"]
    return rows


def rows_around(row):
    """Texts with the row in them: alone, behind and ahead of others, and in each block of each deed."""
    return [
        text_of("box a 3", row),
        text_of("box a 3", "pass", row),
        text_of("box a 3", row, "pass"),
        text_of("box a 3", "if 0 = 0", row, "else", "end"),
        text_of("box a 3", "if 0 = 0", "else", row, "end"),
        text_of("box a 3", "while 0 = 0", row, "end"),
        text_of("box a 3", "times 0", row, "end"),
        text_of("box a 3", "hand", row, "or", "end"),
        text_of("box a 3", "hand", "or", "or", "pass", row, "end"),
        text_of("box a 3", "if 0 = 0", "times 2", "hand", "pass", "or", "while 0 = 0", row, "end", "end", "end",
                "else", "end"),
    ]


class InterfaceTest(unittest.TestCase):
    def test_names_and_arguments(self):
        self.assertEqual(parameters_of(read), ["text"])
        self.assertEqual(parameters_of(shown), ["program"])


class TextsTest(unittest.TestCase):
    def hold(self, text, program):
        self.assertEqual(repr(read(text)), repr(program))
        told = shown(program)
        self.assertIs(type(told), str)
        self.assertEqual(told, text)
        self.assertIs(is_program(program), True)

    def test_the_text_without_signs(self):
        self.hold("", ((), ()))

    def test_boxes(self):
        self.hold("box a 1", ((("a", 1),), ()))
        self.hold(text_of("box z 9", "box abcdefgh 2"), ((("z", 9), ("abcdefgh", 2)), ()))
        names = "abcdefghi"
        self.hold("\n".join(f"box {name} 2" for name in names), (tuple((name, 2) for name in names), ()))
        self.hold(text_of("box b 2", "box a 3", "pass"), ((("b", 2), ("a", 3)), (PASS,)))

    def test_plain_rows(self):
        boxes = (("a", 3), ("b", 2))
        rows = {
            "pass": PASS,
            "set a 5": ("set", "a", (5,)),
            "set a b": ("set", "a", ("b",)),
            "set b a + 1": ("set", "b", ("a", "+", 1)),
            "set b 0 - a": ("set", "b", (0, "-", "a")),
            "set b a * b": ("set", "b", ("a", "*", "b")),
            "set b 2 * 3": ("set", "b", (2, "*", 3)),
            "draw a 1 2 3": ("draw", "a", (1, 2, 3)),
            "draw b 0 999999999": ("draw", "b", (0, MOST)),
            "gain 0": ("gain", 0),
            "gain a": ("gain", "a"),
            "look a = b": ("look", ("a", "=", "b")),
            "look 1 < a": ("look", (1, "<", "a")),
            "look a # 999999999": ("look", ("a", "#", MOST)),
        }
        for row, deed in rows.items():
            self.hold(text_of("box a 3", "box b 2", row), (boxes, (deed,)))
            self.hold(text_of("box a 3", "box b 2", row, "pass", row), (boxes, (deed, PASS, deed)))
        self.hold(text_of("box a 3", "box b 2", *rows), (boxes, tuple(rows.values())))

    def test_one_weight(self):
        self.hold(text_of("box a 1", "draw a 7"), ((("a", 1),), (("draw", "a", (7,)),)))
        self.hold(text_of("box a 9", "draw a 1 2 3 4 5 6 7 8 9"),
                  ((("a", 9),), (("draw", "a", (1, 2, 3, 4, 5, 6, 7, 8, 9)),)))

    def test_if(self):
        self.hold(text_of("if 0 = 0", "else", "end"), ((), (("if", ALWAYS, (), ()),)))
        self.hold(text_of("if 1 < 2", "pass", "else", "end"), ((), (("if", (1, "<", 2), (PASS,), ()),)))
        self.hold(text_of("if 1 # 2", "else", "pass", "end"), ((), (("if", (1, "#", 2), (), (PASS,)),)))
        self.hold(text_of("if 0 = 0", "pass", "gain 1", "else", "gain 2", "end", "gain 3"),
                  ((), (("if", ALWAYS, (PASS, ("gain", 1)), (("gain", 2),)), ("gain", 3))))

    def test_while(self):
        self.hold(text_of("while 0 = 0", "end"), ((), (("while", ALWAYS, ()),)))
        self.hold(text_of("box a 2", "while a < 1", "set a 1", "pass", "end", "pass"),
                  ((("a", 2),), (("while", ("a", "<", 1), (("set", "a", (1,)), PASS)), PASS)))

    def test_times(self):
        self.hold(text_of("times 0", "end"), ((), (("times", 0, ()),)))
        self.hold(text_of("times 60", "end"), ((), (("times", 60, ()),)))
        self.hold(text_of("times 3", "pass", "gain 2", "end", "pass"),
                  ((), (("times", 3, (PASS, ("gain", 2))), PASS)))

    def test_hand(self):
        self.hold(text_of("hand", "or", "end"), ((), (("hand", ((), ())),)))
        self.hold(text_of("hand", "gain 1", "or", "gain 2", "gain 3", "or", "end", "pass"),
                  ((), (("hand", ((("gain", 1),), (("gain", 2), ("gain", 3)), ())), PASS)))
        self.hold(text_of("hand", *["or"] * 7, "end"), ((), (("hand", ((),) * 8),)))

    def test_blocks_within_one_another(self):
        text = text_of(
            "box a 3", "times 2", "if a = 0", "hand", "set a 1", "or", "while a < 2", "set a a + 1", "end", "end",
            "else", "if 1 = 1", "else", "end", "end", "gain a", "end",
        )
        loop = ("while", ("a", "<", 2), (("set", "a", ("a", "+", 1)),))
        hand = ("hand", ((("set", "a", (1,)),), (loop,)))
        choice = ("if", ("a", "=", 0), (hand,), (("if", (1, "=", 1), (), ()),))
        self.hold(text, ((("a", 3),), (("times", 2, (choice, ("gain", "a"))),)))

    def test_names_that_are_words_of_the_language(self):
        for word in WORDS:
            for block in (
                (("set", word, (word,)),),
                (("set", word, (word, "+", word)), ("draw", word, (1, 1)), ("gain", word)),
                (("look", (word, "=", word)), ("while", (word, "#", word), (("gain", word),))),
                (("if", (word, "<", word), (("gain", word),), (("set", word, (1,)),)),),
                (("hand", ((("gain", word),), (("gain", word),))),),
            ):
                program = (((word, 2),), block)
                self.hold(shown(program), program)
        self.hold(text_of("box end 2", "box box 2", "set end box"),
                  ((("end", 2), ("box", 2)), (("set", "end", ("box",)),)))
        self.hold(text_of("box or 2", "hand", "gain or", "or", "look or = or", "end"),
                  ((("or", 2),), (("hand", ((("gain", "or"),), (("look", ("or", "=", "or")),))),)))

    def test_numbers(self):
        for number in (0, 1, 9, 10, 100, 123456789, 999999999):
            self.hold(f"gain {number}", ((), (("gain", number),)))
            self.hold(f"look {number} = {number}", ((), (("look", (number, "=", number)),)))

    def test_twelve_open_at_once(self):
        for kinds in (["if"], ["else"], ["while"], ["times"], ["hand"], ["or"],
                      ["if", "hand", "while", "or", "times", "else"]):
            for core, inner in (((), ()), (("pass",), (PASS,))):
                self.hold(text_of(*opened(12, kinds, core)), ((), self.block_opened(12, kinds, inner)))

    def block_opened(self, depth, kinds, inner):
        block = inner
        for step in range(depth):
            kind = kinds[step % len(kinds)]
            if kind == "hand":
                block = (("hand", (block, ())),)
            elif kind == "or":
                block = (("hand", ((), block)),)
            elif kind == "else":
                block = (("if", ALWAYS, (), block),)
            elif kind == "if":
                block = (("if", ALWAYS, block, ()),)
            elif kind == "times":
                block = (("times", 1, block),)
            else:
                block = (("while", ALWAYS, block),)
        return block

    def test_every_place_of_every_deed(self):
        boxes = (("a", 3),)
        for deed in (PASS, ("set", "a", (2, "-", "a")), ("draw", "a", (0, 1, 2)), ("gain", "a"), ("look", ALWAYS),
                     ("if", ALWAYS, (PASS,), ()), ("while", ALWAYS, ()), ("times", 3, (PASS,)),
                     ("hand", ((), (PASS,), ()))):
            for block in places_for(deed):
                self.hold(shown((boxes, block)), (boxes, block))

    def test_any_programs(self):
        rng = Random(13)
        seen = 0
        for turn in range(600):
            program = some_program(rng, KINDS)
            text = shown(program)
            if is_program(program) and len(text) <= 4000:
                seen += 1
                self.hold(text, program)
        self.assertGreater(seen, 300)

    def test_programs_with_long_texts(self):
        draw = ("draw", "abcdefgh", (MOST,) * 9)
        program = ((("abcdefgh", 9),), (draw,) * 100)
        self.assertIs(is_program(program), True)
        row = "draw abcdefgh" + " 999999999" * 9
        self.assertEqual(shown(program), text_of("box abcdefgh 9", *[row] * 100))
        self.assertGreater(len(shown(program)), 4000)

    def test_a_text_of_four_thousand_signs(self):
        rows = ["box abcdefgh 9"] + ["draw abcdefgh" + " 999999999" * 9] * 38
        text = text_of(*rows, "draw abcdefgh 10 10 1 1 1 1 1 1 1")
        self.assertEqual(len(text), 4000)
        draws = (("draw", "abcdefgh", (MOST,) * 9),) * 38 + (("draw", "abcdefgh", (10, 10, 1, 1, 1, 1, 1, 1, 1)),)
        self.hold(text, ((("abcdefgh", 9),), draws))

    def test_what_is_told_does_not_hang_on_what_was_asked(self):
        text = text_of("box a 2", "hand", "gain a", "or", "end")
        first = read(text)
        with self.assertRaises(NoText):
            read(text + "\n")
        self.assertEqual(read(text), first)
        self.assertEqual(read("pass"), ((), (PASS,)))
        self.assertEqual(read(text), first)


class NoTextTest(unittest.TestCase):
    def refused(self, text):
        try:
            told = read(text)
        except NoText:
            return
        except LotsError as other:
            self.fail(f"{text!r} is refused with {other!r}")
        self.fail(f"{text!r} is read as {told!r}")

    def everywhere_refused(self, row):
        for text in rows_around(row):
            self.refused(text)

    def test_rows_around_are_read_with_a_good_row(self):
        for row in ("pass", "set a 2", "draw a 1 2 3", "look a = 1"):
            for text in rows_around(row):
                self.assertEqual(shown(read(text)), text)

    def test_blanks_ahead_behind_doubled(self):
        for row in ("pass", "set a 1", "set a 1 + 2", "draw a 1 2 3", "gain a", "look a = 1"):
            self.everywhere_refused(" " + row)
            self.everywhere_refused(row + " ")
            self.everywhere_refused("  " + row)
            for place, sign in enumerate(row):
                if sign == " ":
                    self.everywhere_refused(row[:place] + "  " + row[place + 1:])

    def test_blanks_in_rows_that_open_and_close(self):
        good = ["box a 2", "if a = 1", "pass", "else", "while a < 1", "end", "end", "times 3", "end", "hand", "pass",
                "or", "end"]
        self.assertEqual(shown(read(text_of(*good))), text_of(*good))
        for place, row in enumerate(good):
            for changed in (" " + row, row + " ", row.replace(" ", "  "), row + " " + row, row + " 1", row + " x",
                            row.upper(), row + ".", row + "\t"):
                if changed != row:
                    self.refused(text_of(*good[:place], changed, *good[place + 1:]))
        for row in ("if a  = 1", "if a = ", "if  a = 1", "if a = 1 "):
            self.refused(text_of("box a 2", row, "else", "end"))

    def test_blanks_alone(self):
        for text in (" ", "  ", "\n", "\n\n", " \n", "\n "):
            self.refused(text)

    def test_signs_that_stand_in_no_row(self):
        for sign in "!\"$&'(),./:;>?@[\\]^_`{|}~ABCZ":
            self.refused(sign)
            self.everywhere_refused(sign)
            self.everywhere_refused("pass" + sign)
            self.everywhere_refused("gain " + sign)
            self.everywhere_refused("gain a" + sign)
            self.everywhere_refused("gain 1" + sign)
            self.everywhere_refused("look a " + sign + " 1")
            self.everywhere_refused("set a 1 " + sign + " 1")
            self.refused(text_of("box a" + sign + " 3"))
            self.refused(text_of("box a 3" + sign))

    def test_signs_beyond(self):
        for row in ("gain \u00b2", "gain \u0661", "gain \u00e9", "pass\r", "gain\ta", "pass\x0b", "gain 1\u00a0",
                    "gain 1_0", "gain +1", "gain -1", "gain 1.0"):
            self.everywhere_refused(row)

    def test_empty_rows(self):
        rows = ["box a 2", "pass", "if a = 1", "pass", "else", "pass", "end", "pass"]
        self.assertEqual(shown(read(text_of(*rows))), text_of(*rows))
        for place in range(len(rows) + 1):
            self.refused(text_of(*rows[:place], "", *rows[place:]))
            self.refused(text_of(*rows[:place], " ", *rows[place:]))
        self.refused("pass\n")
        self.refused("box a 2\n")
        self.refused("\npass")

    def test_rows_that_close_nothing(self):
        for row in ("end", "else", "or"):
            self.refused(row)
            self.refused(text_of("box a 2", row))
            self.refused(text_of("pass", row))
            self.refused(text_of(row, "pass"))
            self.refused(text_of("times 1", "end", row))
            self.refused(text_of("if 0 = 0", "else", "end", row))
            self.refused(text_of("hand", "or", "end", row))

    def test_rows_that_are_never_closed(self):
        for rows in (
            ["if 0 = 0"], ["if 0 = 0", "pass"], ["if 0 = 0", "else"], ["if 0 = 0", "else", "pass"],
            ["while 0 = 0"], ["while 0 = 0", "pass"], ["times 2"], ["times 2", "pass"],
            ["hand"], ["hand", "pass"], ["hand", "or"], ["hand", "or", "pass"], ["hand", "or", "or"],
            ["while 0 = 0", "times 1", "end"], ["hand", "hand", "or", "end", "or"],
            ["if 0 = 0", "if 0 = 0", "else", "end"],
        ):
            self.refused(text_of(*rows))
            self.refused(text_of("pass", *rows))

    def test_if(self):
        self.refused(text_of("if 0 = 0", "end"))
        self.refused(text_of("if 0 = 0", "pass", "end"))
        self.refused(text_of("if 0 = 0", "else", "else", "end"))
        self.refused(text_of("if 0 = 0", "pass", "else", "pass", "else", "pass", "end"))
        self.refused(text_of("if 0 = 0", "or", "end"))
        self.refused(text_of("if 0 = 0", "else", "or", "end"))
        self.refused(text_of("if 0 = 0", "or", "else", "end"))
        self.refused(text_of("if 0 = 0", "times 1", "else", "end", "end"))

    def test_while_and_times(self):
        for row in ("while 0 = 0", "times 2"):
            self.refused(text_of(row, "else", "end"))
            self.refused(text_of(row, "pass", "else", "pass", "end"))
            self.refused(text_of(row, "or", "end"))
            self.refused(text_of(row, "pass", "or", "pass", "end"))
            self.refused(text_of(row, "end", "end"))

    def test_hand(self):
        self.refused(text_of("hand", "end"))
        self.refused(text_of("hand", "pass", "end"))
        self.refused(text_of("hand", "else", "end"))
        self.refused(text_of("hand", "or", "else", "end"))
        self.refused(text_of("hand", "else", "or", "end"))
        self.refused(text_of("hand a", "or", "end"))
        self.refused(text_of("hand 2", "or", "end"))

    def test_a_box_behind_a_deed(self):
        self.refused(text_of("pass", "box a 2"))
        self.refused(text_of("box a 2", "pass", "box b 2"))
        self.refused(text_of("box a 2", "set a 1", "box b 2", "pass"))
        self.refused(text_of("times 1", "box a 2", "end"))
        self.refused(text_of("if 0 = 0", "else", "box a 2", "end"))
        self.refused(text_of("times 1", "end", "box a 2"))

    def test_unknown_words(self):
        for word in ("x", "skip", "boxes", "a", "Pass", "PASS", "passs", "pas", "0", "1", "+", "=", "endif", "elif",
                     "then", "then pass", "gains 1", "pass:", "#", "# pass"):
            for rest in ("", " a", " 1", " a 1", " a 1 + 2", " a = 1", " a 1 2 3"):
                self.everywhere_refused(word + rest)
                self.refused(word + rest)

    def test_rows_with_too_few_or_too_many_words(self):
        for row in (
            "pass pass", "pass 1", "pass a",
            "set", "set a", "set a 1 +", "set a 1 2", "set a + 1", "set a 1 + 2 3", "set a 1 + 2 + 3", "set a a a",
            "draw", "draw a", "gain", "gain a a", "gain 1 + 2", "gain 1 1",
            "look", "look a", "look a =", "look a = 1 1", "look = 1", "look a 1", "look a = 1 = 1", "look a 1 =",
            "box", "box a", "box a 3 3",
        ):
            self.everywhere_refused(row)
        for row in ("box", "box a", "box a 3 3", "box 3", "box 3 a", "box a a", "box 3 3"):
            self.refused(row)
            self.refused(text_of("box b 2", row, "pass"))
        for row in ("if", "if a", "if a =", "if a = 1 1", "if 0 = 0 else", "if a 1"):
            self.refused(text_of("box a 3", row, "else", "end"))
        for row in ("while", "while a", "while a =", "while a = 1 1", "while a = 0 end"):
            self.refused(text_of("box a 3", row, "end"))
        for row in ("times", "times 1 1", "times a", "times 1 pass", "times a a", "times -1", "times 1 + 1"):
            self.refused(text_of("box a 3", row, "end"))
        for row in ("or", "or or", "or a", "or 1"):
            self.refused(text_of("box a 3", "hand", row, "end", "end"))
        for row in ("else else", "else if 0 = 0", "else a", "else 1"):
            self.refused(text_of("if 0 = 0", row, "end"))
        for row in ("end end", "end if", "end a", "end 1"):
            self.refused(text_of("times 1", row))
            self.refused(text_of("if 0 = 0", "else", row))
            self.refused(text_of("hand", "or", row))

    def test_signs_of_the_other_kind(self):
        for sign in ("=", "<", "#", "/", ">", "==", "!=", "<=", "++", "+-", "%", "plus", "1", "a"):
            self.everywhere_refused(f"set a 1 {sign} 2")
        for sign in ("+", "-", "*", ">", "==", "!=", "<=", ">=", "##", "%", "is", "1", "a"):
            self.everywhere_refused(f"look a {sign} 2")
            self.refused(text_of("box a 2", f"if a {sign} 2", "else", "end"))
            self.refused(text_of("box a 2", f"while a {sign} 2", "end"))

    def test_names(self):
        for name in ("abcdefghi", "A", "aB", "a1", "1a", "a_", "a-b", "a.b", "+", "="):
            self.refused(f"box {name} 3")
            self.everywhere_refused(f"set {name} 1")
            self.everywhere_refused(f"set a {name}")
            self.everywhere_refused(f"set a {name} + 1")
            self.everywhere_refused(f"set a 1 + {name}")
            self.everywhere_refused(f"draw {name} 1 1 1")
            self.everywhere_refused(f"gain {name}")
            self.everywhere_refused(f"look {name} = 1")
            self.everywhere_refused(f"look 1 = {name}")
            self.refused(text_of(f"if {name} = 1", "else", "end"))
            self.refused(text_of(f"while 1 = {name}", "end"))
        for row in ("set 1 1", "set 1 a", "set 0 0 + 0", "draw 1 1 1 1", "draw 3 1"):
            self.everywhere_refused(row)

    def test_numbers(self):
        for number in ("00", "01", "007", "0123", "000000000", "1000000000", "1234567890", "0000000000", "9" * 60,
                       "-1", "+1", "1.0", "1e3", "0x1", "1,000", "1_0", "1q"):
            self.refused(f"box a {number}")
            self.everywhere_refused(f"set a {number}")
            self.everywhere_refused(f"set a {number} + 1")
            self.everywhere_refused(f"set a 1 + {number}")
            self.everywhere_refused(f"draw a {number} 1 1")
            self.everywhere_refused(f"draw a 1 1 {number}")
            self.everywhere_refused(f"gain {number}")
            self.everywhere_refused(f"look {number} = a")
            self.everywhere_refused(f"look a = {number}")
            self.refused(text_of(f"times {number}", "end"))
            self.refused(text_of(f"if {number} = 1", "else", "end"))
            self.refused(text_of(f"while 1 = {number}", "end"))
        for row in ("draw a a 1 1", "draw a 1 1 a", "draw a 1 a 1"):
            self.everywhere_refused(row)

    def test_thirteen_open_at_once(self):
        for kinds in (["if"], ["else"], ["while"], ["times"], ["hand"], ["or"],
                      ["if", "hand", "while", "or", "times", "else"]):
            for depth in (13, 14, 40):
                self.refused(text_of(*opened(depth, kinds, ())))
                self.refused(text_of("pass", *opened(depth, kinds, ["pass"]), "pass"))
        self.refused(text_of(*["hand"] * 700))
        self.refused(text_of(*["times 1"] * 450))

    def test_no_text_goes_ahead_of_no_program(self):
        for row in ("gain b", "draw a 1", "draw a 0 0 0"):
            self.refused(text_of("box a 3", row, "end"))
            self.refused(text_of("box a 3", row, "x"))
        self.refused(text_of("box a 10", "end"))
        self.refused(text_of("box a 3", "box a 3", "pass "))
        self.refused(text_of(*["pass"] * 101, "end"))
        self.refused(text_of("times 61", "end", "else"))
        self.refused(text_of("times 61", *opened(12, ["times"], ()), "end"))
        self.refused(text_of("hand", *["or"] * 8, "end", ""))

    def test_a_row_left_out_or_said_twice(self):
        rows = ["box a 2", "if a = 1", "pass", "else", "while a < 1", "end", "end", "times 3", "gain 1", "end", "hand",
                "gain 2", "or", "end"]
        for place, row in enumerate(rows):
            if row.split(" ")[0] not in ("box", "pass", "gain"):
                self.refused(text_of(*rows[:place], *rows[place + 1:]))
        for place, row in enumerate(rows):
            if row.split(" ")[0] not in ("box", "pass", "gain", "or"):
                self.refused(text_of(*rows[:place], row, *rows[place:]))


class NoProgramTest(unittest.TestCase):
    def refused(self, *rows):
        with self.assertRaises(NoProgram):
            read(text_of(*rows))

    def everywhere_refused(self, row):
        for text in rows_around(row):
            self.refused(text)

    def test_sizes(self):
        for size in (0, 10, 11, 999999999):
            self.refused(f"box a {size}")
            self.refused("box b 2", f"box a {size}", "pass")

    def test_names_twice(self):
        self.refused("box a 2", "box a 2")
        self.refused("box a 2", "box b 2", "box a 3", "pass")

    def test_too_many_boxes(self):
        self.assertEqual(len(read("\n".join(f"box {name} 1" for name in "abcdefghi"))[0]), 9)
        self.refused(*[f"box {name} 1" for name in "abcdefghij"])

    def test_too_many_states(self):
        self.assertEqual(len(read("box a 5\nbox b 5\nbox c 5\nbox d 8")[0]), 4)
        self.refused("box a 2", "box b 7", "box c 8", "box d 9")
        self.refused("box a 9", "box b 9", "box c 9", "box d 9")

    def test_unknown_names(self):
        for row in ("set b 1", "set a b", "set a b + 1", "set a 1 + b", "draw b 1 1 1", "gain b", "look b = 1",
                    "look 1 = b", "gain aa", "gain box", "gain abcdefgh"):
            self.everywhere_refused(row)
        self.refused("gain a")
        for test in ("b = 1", "1 < b", "a # b"):
            self.refused("box a 2", f"if {test}", "else", "end")
            self.refused("box a 2", f"while {test}", "end")
            self.refused("box a 2", "hand", "or", "times 0", f"while {test}", "end", "end", "end")

    def test_weights(self):
        for row in ("draw a 1", "draw a 1 1", "draw a 1 1 1 1", "draw a 0 0 0", "draw a 0", "draw a 1 2 3 4 5 6 7 8 9"):
            self.everywhere_refused(row)

    def test_times(self):
        self.assertEqual(read("times 60\nend"), ((), (("times", 60, ()),)))
        for number in (61, 100, 999999999):
            self.refused(f"times {number}", "end")
            self.refused("if 0 = 0", "else", f"times {number}", "end", "end")
            self.refused("times 0", f"times {number}", "end", "end")

    def test_hands(self):
        self.refused("hand", *["or"] * 8, "end")
        self.refused("hand", *["or"] * 9, "end")
        self.refused("times 0", "hand", *["or"] * 8, "end", "end")
        self.refused("hand", *["or"] * 1000, "end")

    def test_length(self):
        self.assertEqual(read(text_of(*["pass"] * 100)), ((), (PASS,) * 100))
        self.refused(*["pass"] * 101)
        self.refused(*["pass"] * 800)
        self.refused("times 10", *["pass"] * 9, "end")
        self.refused("times 0", *["pass"] * 99, "end")
        self.refused("times 60", "times 60", "end", "end")
        self.refused("hand", *["pass"] * 50, "or", *["pass"] * 50, "end")
        self.refused(*opened(12, ["times"], ["pass"] * 77))
        block = nested(12, ("times",), (PASS,) * 76)
        self.assertEqual(read(text_of(*opened(12, ["times"], ["pass"] * 76))), ((), block))


if __name__ == "__main__":
    unittest.main()
