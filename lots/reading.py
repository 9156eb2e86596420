"""Programs read from their texts, row by row."""

from lots.errors import NoProgram, NoText
from lots.programs import MOST_WITHIN, is_program
from lots.words import BLOCK_KINDS, RECKONING_SIGNS, TEST_SIGNS, is_name, is_number


class Rows:
    # Rows that are still to be read: lists of words, and the place of the next one.
    # A doubled blank, or one at a row's begin or end, leaves a word without signs, which is none of the language.
    def __init__(self, text):
        self.rows = []
        if text != "":
            self.rows = [row.split(" ") for row in text.split("\n")]
        self.place = 0

    def first_word(self):
        if self.place == len(self.rows):
            return None
        return self.rows[self.place][0]

    def taken(self):
        words = self.rows[self.place]
        self.place += 1
        return words

    def take_alone(self, word):
        if self.first_word() is None or self.taken() != [word]:
            raise NoText(f"a row with the word {word} alone is missing")


def read(text):
    rows = Rows(text)
    boxes = boxes_from(rows)
    block = block_from(rows, 0)
    if rows.first_word() is not None:
        raise NoText("a row closes nothing")
    program = (boxes, block)
    if not is_program(program):
        raise NoProgram("the text is well built, but goes beyond a bound")
    return program


def boxes_from(rows):
    boxes = []
    while rows.first_word() == "box":
        words = rows.taken()
        if len(words) != 3:
            raise NoText("a box has a name and a size")
        boxes.append((name_from(words[1]), number_from(words[2])))
    return tuple(boxes)


def block_from(rows, opened):
    deeds = []
    while rows.first_word() not in (None, "else", "or", "end"):
        deeds.append(deed_from(rows, opened))
    return tuple(deeds)


def deed_from(rows, opened):
    words = rows.taken()
    kind = words[0]
    if kind not in BLOCK_KINDS:
        return plain_deed(kind, words[1:])
    if opened == MOST_WITHIN:
        raise NoText("too many deeds are open at once")
    if kind == "if":
        return if_from(rows, test_from(words[1:]), opened + 1)
    if kind == "while":
        return ("while", test_from(words[1:]), closed_block(rows, opened + 1))
    if kind == "times":
        return ("times", turns_from(words[1:]), closed_block(rows, opened + 1))
    if len(words) != 1:
        raise NoText("a hand stands alone in its row")
    return ("hand", hand_blocks(rows, opened + 1))


def plain_deed(kind, words):
    if kind == "pass" and len(words) == 0:
        return ("pass",)
    if kind == "set" and len(words) > 1:
        return ("set", name_from(words[0]), reckoning_from(words[1:]))
    if kind == "draw" and len(words) > 1:
        return ("draw", name_from(words[0]), tuple([number_from(word) for word in words[1:]]))
    if kind == "gain" and len(words) == 1:
        return ("gain", operand_from(words[0]))
    if kind == "look":
        return ("look", test_from(words))
    raise NoText(f"no deed is written so: {kind!r}")


def closed_block(rows, opened):
    block = block_from(rows, opened)
    rows.take_alone("end")
    return block


def if_from(rows, test, opened):
    block = block_from(rows, opened)
    rows.take_alone("else")
    return ("if", test, block, closed_block(rows, opened))


def hand_blocks(rows, opened):
    blocks = [block_from(rows, opened)]
    rows.take_alone("or")
    blocks.append(block_from(rows, opened))
    while rows.first_word() == "or":
        rows.take_alone("or")
        blocks.append(block_from(rows, opened))
    rows.take_alone("end")
    return tuple(blocks)


def reckoning_from(words):
    if len(words) == 1:
        return (operand_from(words[0]),)
    return signed_from(words, RECKONING_SIGNS)


def test_from(words):
    return signed_from(words, TEST_SIGNS)


def signed_from(words, signs):
    if len(words) != 3 or words[1] not in signs:
        raise NoText("two operands stand with a sign between them")
    return (operand_from(words[0]), words[1], operand_from(words[2]))


def turns_from(words):
    if len(words) != 1:
        raise NoText("times has one number")
    return number_from(words[0])


def operand_from(word):
    if is_number(word):
        return int(word)
    return name_from(word)


def number_from(word):
    if not is_number(word):
        raise NoText(f"no number: {word!r}")
    return int(word)


def name_from(word):
    if not is_name(word):
        raise NoText(f"no name: {word!r}")
    return word
