"""Programs that several tests are tried on."""

RECKONING_SIGNS = ("+", "-", "*")
TEST_SIGNS = ("=", "<", "#")
ALWAYS = (0, "=", 0)
PASS = ("pass",)
# Words of the language, which may be names of boxes too.
WORDS = ("box", "pass", "set", "draw", "gain", "look", "if", "else", "while", "times", "hand", "or", "end")


def places_for(deed):
    """Blocks with the deed in them: alone, behind and ahead of others, in each block of each deed, and deeper."""
    inner = (deed,)
    blocks = [
        inner,
        (PASS, deed),
        (deed, PASS),
        (("if", ALWAYS, inner, ()),),
        (("if", ALWAYS, (), inner),),
        (("while", ALWAYS, inner),),
        (("times", 0, inner),),
        (("times", 2, inner),),
        (("hand", (inner, ())),),
        (("hand", ((), (), (PASS, deed))),),
        (PASS, ("if", ALWAYS, (PASS,), (PASS, ("times", 0, (("hand", ((), (("while", ALWAYS, inner),))),)))),),
    ]
    return blocks


def nested(depth, kinds, core):
    """A block in which so many deeds stand within one another, of the kinds in turn, the core innermost."""
    block = core
    for step in range(depth):
        block = (around(kinds[step % len(kinds)], block),)
    return block


def around(kind, block):
    if kind == "if":
        return ("if", ALWAYS, block, ())
    if kind == "else":
        return ("if", ALWAYS, (), block)
    if kind == "while":
        return ("while", (1, "<", 0), block)
    if kind == "times":
        return ("times", 1, block)
    if kind == "never":
        return ("times", 0, block)
    if kind == "hand":
        return ("hand", (block, ()))
    return ("hand", ((), (), block))


def some_boxes(rng):
    names = rng.sample(["a", "b", "ab", "abc", "zzzzzzzz", "x"] + list(WORDS), rng.randrange(0, 5))
    sizes = [rng.choice((1, 2, 3, 5)) for name in names]
    return tuple(zip(names, sizes))


def some_operand(rng, boxes):
    if boxes and rng.randrange(2):
        return rng.choice(boxes)[0]
    return rng.choice((0, 1, 2, 3, 7, 10, 999999999))


def some_test(rng, boxes):
    return (some_operand(rng, boxes), rng.choice(TEST_SIGNS), some_operand(rng, boxes))


def some_deed(rng, boxes, depth, kinds):
    kind = rng.choice(kinds if depth > 0 else [one for one in kinds if one not in ("if", "while", "times", "hand")])
    if kind in ("set", "draw") and not boxes:
        return PASS
    if kind == "set":
        reckoning = (some_operand(rng, boxes),)
        if rng.randrange(2):
            reckoning = reckoning + (rng.choice(RECKONING_SIGNS), some_operand(rng, boxes))
        return ("set", rng.choice(boxes)[0], reckoning)
    if kind == "draw":
        name, size = rng.choice(boxes)
        weights = [rng.choice((0, 0, 1, 2, 3, 999999999)) for number in range(size)]
        weights[rng.randrange(size)] = rng.randrange(1, 10)
        return ("draw", name, tuple(weights))
    if kind == "gain":
        return ("gain", some_operand(rng, boxes))
    if kind == "look":
        return ("look", some_test(rng, boxes))
    if kind == "if":
        return ("if", some_test(rng, boxes), some_block(rng, boxes, depth - 1, kinds),
                some_block(rng, boxes, depth - 1, kinds))
    if kind == "while":
        return ("while", some_test(rng, boxes), some_block(rng, boxes, depth - 1, kinds))
    if kind == "times":
        return ("times", rng.choice((0, 1, 2, 3)), some_block(rng, boxes, depth - 1, kinds))
    if kind == "hand":
        return ("hand", tuple(some_block(rng, boxes, depth - 1, kinds) for turn in range(rng.randrange(2, 5))))
    return PASS


def some_block(rng, boxes, depth, kinds):
    return tuple(some_deed(rng, boxes, depth, kinds) for turn in range(rng.randrange(0, 4)))


def some_program(rng, kinds):
    """Any program of deeds of these kinds; it may be too long to be one."""
    boxes = some_boxes(rng)
    return (boxes, some_block(rng, boxes, 3, kinds))
