"""Programs for the tests, and a second interpreter by the words of promises 20 and 21 alone."""

from itertools import product

LETTERS = "abcdefghijklmnopqrstuvwxyz"
BLOCKS = {"toss": (1, 2), "if": (2, 3), "loop": (1,), "set": (), "leave": (), "end": (), "call": ()}

TOSS_ONCE = ((("loop", (("toss", (("end", 1),), ()),)),), ())
# A fair coin: two tosses again and again, until they differ.
FAIR_PROGRAM = (
    (("loop", (("toss", (("toss", (), (("end", 1),)),), (("toss", (("end", 0),), ()),)),)),), (),
)
# Counts heads in a variable that defs share; one def calls another from two places.
CALLS = (
    (("loop", (("call", "one"), ("if", ("alike", "n", 3), (("leave",),), ()), ("call", "two"))), ("end", "n")),
    (
        ("one", (("toss", (("set", "n", ("plus", "n", 1)),), (("call", "two"),)),)),
        ("two", (("set", "m", ("less", "n", 1)), ("toss", (), (("set", "n", "m"),)))),
    ),
)
# Leaves in nested loops, the inner one within an "if" and within a toss.
LEAVES = (
    (
        ("loop", (
            ("loop", (
                ("toss", (("leave",),), (("if", "x", (("leave",),), (("set", "x", 1),)),)),
                ("set", "y", ("plus", "y", 1)),
            )),
            ("if", ("less", "y", 2), (("leave",),), (("set", "x", 0), ("toss", (), (("end", 7),)))),
        )),
        ("end", "y"),
    ), (),
)
EMPTY_BLOCKS = (
    (
        ("toss", (), ()), ("if", 0, (), ()), ("call", "none"), ("if", 1, (), (("end", 5),)),
        ("toss", (("loop", ()),), (("call", "none"),)), ("if", "q", (("end", 5),), ()),
    ), (("none", ()),),
)
NEVER_AT_ONCE = ((("set", "x", 4), ("loop", (("set", "y", "x"), ("set", "x", "y")))), ())
# Positions that differ only in a call, and in a variable that is never read.
SAME_BUT_CALL = ((("call", "f"), ("call", "f"), ("call", "f")), (("f", (("toss", (), ()),)),))
UNREAD = ((("toss", (("set", "x", 1),), (("set", "x", 2),)), ("toss", (), ())), ())
PROGRAMS = (
    ((), ()), ((("end", 0),), ()), ((("end", ("plus", 9, 9)),), ()), TOSS_ONCE, FAIR_PROGRAM, CALLS, LEAVES,
    EMPTY_BLOCKS, NEVER_AT_ONCE, SAME_BUT_CALL, UNREAD, ((("loop", ()),), ()), ((("toss", (), ()),), ()),
    ((("loop", (("toss", (), ()),)),), ()), ((("set", "a", 3), ("call", "g")), (("g", (("end", "a"),)),)),
)


class Steps(Exception):
    """More than 300 statements would be executed without a toss in between."""


def link(program):
    """Return a dict from each path to (statement, what comes behind it, what comes behind its loop)."""
    table = {}
    link_block(program[0], (-1,), ("stop",), None, table)
    for k, (_, block) in enumerate(program[1]):
        link_block(block, (k,), ("return",), None, table)
    return table


def link_block(block, prefix, behind, outside, table):
    for k, statement in enumerate(block):
        here = (*prefix, k)
        following = ("at", (*prefix, k + 1)) if k + 1 < len(block) else behind
        table[here] = (statement, following, outside)
        for element in BLOCKS[statement[0]]:
            if statement[0] == "loop":
                inner = (("round", (*here, 1, 0)), following)
            else:
                inner = (following, outside)
            link_block(statement[element], (*here, element), *inner, table)


def value_of(expression, variables):
    if isinstance(expression, tuple):
        one, other = [value_of(part, variables) for part in expression[1:]]
        return {
            "plus": min(9, one + other), "less": max(0, one - other), "alike": int(one == other),
            "least": min(one, other),
        }[expression[0]]
    return variables.get(expression, 0) if isinstance(expression, str) else expression


def first_of(block, prefix, behind):
    return ("at", (*prefix, 0)) if block else behind


class Interpreter:
    """A run of one program, from toss to toss."""

    def __init__(self, program):
        self.program = program
        self.table = link(program)

    def start(self):
        return self.go(first_of(self.program[0], (-1,), ("stop",)), [], {})

    def toss(self, position, side):
        path, calls, values = position
        statement, behind, _ = self.table[path]
        element = 1 if side == "H" else 2
        return self.go(first_of(statement[element], (*path, element), behind), list(calls), dict(values))

    def go(self, goto, calls, variables):
        """Return ("ended", answer), ("never",) or ("toss", position)."""
        seen, steps = [], 0
        while True:
            while goto[0] == "return":
                goto = self.table[calls.pop()][1]
            if goto[0] == "stop":
                return ("ended", 0)
            path = goto[1]
            values = tuple(sorted((name, value) for name, value in variables.items() if value != 0))
            position = (path, tuple(calls), values)
            if position in seen:
                return ("never",)
            seen.append(position)
            statement, behind, outside = self.table[path]
            steps += goto[0] == "round"
            if statement[0] != "toss":
                steps += 1
            if steps > 300:
                raise Steps()
            if statement[0] == "toss":
                return ("toss", position)
            if statement[0] == "end":
                return ("ended", value_of(statement[1], variables))
            goto = self.execute(statement, path, behind, outside, calls, variables)

    def execute(self, statement, path, behind, outside, calls, variables):
        if statement[0] == "set":
            variables[statement[1]] = value_of(statement[2], variables)
            return behind
        if statement[0] == "if":
            element = 2 if value_of(statement[1], variables) else 3
            return first_of(statement[element], (*path, element), behind)
        if statement[0] == "loop":
            return first_of(statement[1], (*path, 1), ("round", path))
        if statement[0] == "leave":
            return outside
        number = [word for word, _ in self.program[1]].index(statement[1])
        calls.append(path)
        return first_of(self.program[1][number][1], (number,), ("return",))


def plain_run_program(program, tape):
    """Run the program on the tape; raise Steps where run_program has to raise."""
    interpreter = Interpreter(program)
    state = interpreter.start()
    for used in range(len(tape) + 1):
        if state[0] != "toss":
            return (*state, used)
        if used < len(tape):
            state = interpreter.toss(state[1], tape[used])
    return ("going", len(tape))


def first_limit(program):
    """Return "states", "steps" or None: which limit is met first; and the number of positions at a toss.

    The tapes are looked at in the order of their lengths, heads before tails.
    """
    interpreter = Interpreter(program)
    reached = [("", None)]
    positions = []
    for tape, before in reached:
        try:
            state = interpreter.start() if before is None else interpreter.toss(before, tape[-1])
        except Steps:
            return "steps", None
        if state[0] == "toss" and state[1] not in positions:
            positions.append(state[1])
            if len(positions) > 48:
                return "states", None
            reached.extend([(tape + side, state[1]) for side in "HT"])
    return None, len(positions)


def all_tapes(size):
    """Return all tapes of at most so many characters."""
    return ["".join(row) for length in range(size + 1) for row in product("HT", repeat=length)]


def random_expression(generator, names, depth=2):
    if depth == 0 or generator.random() < 0.5:
        return generator.choice((generator.randrange(10), generator.choice(names), generator.choice(names)))
    parts = [random_expression(generator, names, depth - 1) for _ in range(2)]
    return (generator.choice(("plus", "less", "alike", "least")), *parts)


def random_statement(generator, names, words, looped, depth):
    kinds = ["toss", "toss", "set", "set", "if", "loop", "end"] + ["leave"] * looped + ["call"] * bool(words)
    kind = generator.choice([k for k in kinds if depth > 0 or not BLOCKS[k]])
    if kind == "set":
        step = ("plus", generator.choice(names), 1)
        value = generator.choice((step, random_expression(generator, names)))
        return ("set", generator.choice(names), value)
    if kind == "leave":
        return ("leave",)
    if kind == "end":
        return ("end", random_expression(generator, names, 1))
    if kind == "call":
        return ("call", generator.choice(words))
    inside = looped or kind == "loop"
    blocks = [random_block(generator, names, words, inside, depth - 1) for _ in BLOCKS[kind]]
    return ("if", random_expression(generator, names), *blocks) if kind == "if" else (kind, *blocks)


def random_block(generator, names, words, looped, depth):
    size = generator.choice((0, 1, 1, 2, 2, 3))
    return tuple(random_statement(generator, names, words, looped, depth) for _ in range(size))


def random_program(generator, depth=3):
    """Return a program without an error: each def calls only defs that come later."""
    names = ("x", "y", "count")[:generator.randint(1, 3)]
    words = [f"d{letter}" for letter in LETTERS[:generator.randint(0, 3)]]
    block = random_block(generator, names, words, False, depth) + random_block(generator, names, words, False, depth)
    defs = tuple(
        (word, random_block(generator, names, words[k + 1:], False, depth - 1)) for k, word in enumerate(words)
    )
    return (block, defs)


def counting_program(generator, before, variables):
    """Return a program that counts through its variables, before a toss and in a loop, with many steps."""
    count = ()
    for name in variables:
        count = (("if", ("alike", name, 9), (("set", name, 0), *count), (("set", name, ("plus", name, 1)),)),)
    stop = (("if", ("alike", variables[0], generator.randrange(10)), (("leave",),), ()),)
    loops = (("loop", (*count, *(stop if generator.random() < 0.8 else ()))),)
    fill = tuple(("set", generator.choice(variables), generator.randrange(10)) for _ in range(before))
    tosses = (("toss", loops, fill[:3]),)
    return (fill + generator.choice((loops, tosses, loops + tosses, tosses + loops)), ())


def straight_line(steps, last=()):
    """Return a block of exactly so many steps, at least one, in one statement, and then the last ones."""
    full, rest = divmod(steps - 1, 21)
    inner = tuple(("if", 1, (("set", "z", 1),) * (size - 1), ()) for size in [21] * full + [rest] * (rest > 0))
    return (("if", 1, inner, ()), *last)


def nest_blocks(depth, inner=()):
    """Return a block with so many blocks nested, itself counted."""
    block = inner
    for k in range(depth - 1):
        block = ((("loop", block),), (("toss", (), block),), (("if", 1, block, ()),))[k % 3]
    return block


def nest_expressions(depth):
    value = "x"
    for k in range(depth):
        value = ("plus", 1, value) if k % 2 else ("least", value, 2)
    return value
