"""Promise 20: what is no program, and why."""

import unittest

from bentcoin.programs import program_error
from tests.changes import ANY, list_changes
from tests.helpers import make_generator
from tests.program_helpers import BLOCKS, LETTERS, PROGRAMS, nest_blocks, nest_expressions, random_program

END = (("end", 1),)
LEAVE = (("leave",),)


def is_plain_word(value):
    return type(value) is str and 1 <= len(value) <= 6 and set(value) <= set(LETTERS)


def is_plain_expression(value, left=6):
    """Tell whether a value is an expression; so many tuples may be nested."""
    if type(value) is int:
        return 0 <= value <= 9
    if type(value) is tuple:
        return (
            left > 0 and len(value) == 3 and type(value[0]) is str
            and value[0] in ("plus", "less", "alike", "least")
            and all(is_plain_expression(part, left - 1) for part in value[1:])
        )
    return is_plain_word(value)


def is_plain_block(value, left=6):
    if type(value) is not tuple or len(value) > 20 or left == 0:
        return False
    return all(is_plain_statement(part, left) for part in value)


def is_plain_statement(value, left):
    if type(value) is not tuple or not value or type(value[0]) is not str:
        return False
    word, parts = value[0], value[1:]
    def block(part):
        return is_plain_block(part, left - 1)
    kinds = {
        "toss": [block, block], "set": [is_plain_word, is_plain_expression],
        "if": [is_plain_expression, block, block], "loop": [block], "leave": [],
        "end": [is_plain_expression], "call": [is_plain_word],
    }
    if word not in kinds or len(kinds[word]) != len(parts):
        return False
    return all(kind(part) for kind, part in zip(kinds[word], parts))


def is_plain_program(value):
    if type(value) is not tuple or len(value) != 2 or not is_plain_block(value[0]):
        return False
    if type(value[1]) is not tuple or len(value[1]) > 6:
        return False
    for pair in value[1]:
        if type(pair) is not tuple or len(pair) != 2 or not is_plain_word(pair[0]) or not is_plain_block(pair[1]):
            return False
    return len({word for word, _ in value[1]}) == len(value[1])


def visit(block, path, looped):
    for k, statement in enumerate(block):
        yield (*path, k), statement, looped
        for element in BLOCKS[statement[0]]:
            yield from visit(statement[element], (*path, k, element), looped or statement[0] == "loop")


def plain_error(value):
    """Return what program_error has to return, by the words of promise 20 and the interface."""
    if not is_plain_program(value):
        return "form"
    words = [word for word, _ in value[1]]
    calls = {}
    for number, block in ((-1, value[0]), *[(k, block) for k, (_, block) in enumerate(value[1])]):
        calls[number] = []
        for path, statement, looped in visit(block, (number,), False):
            if statement == ("leave",) and not looped:
                return ("leave", path)
            if statement[0] == "call":
                if statement[1] not in words:
                    return ("def", path)
                calls[number].append(words.index(statement[1]))
    for k, word in enumerate(words):
        reached = set(calls[k])
        for _ in words:
            reached |= {x for y in reached for x in calls[y]}
        if k in reached:
            return ("ring", word)
    return None


class Form(unittest.TestCase):

    def check(self, value, due):
        self.assertEqual(program_error(value), due, value)
        self.assertEqual(plain_error(value), due, value)

    def check_statement(self, statement, due):
        """Check a statement that needs no loop, in the main block, in a def and nested."""
        for block in ((statement,), END + (statement,), (("if", 0, (), (statement,)),), (("loop", (statement,)),)):
            self.check((block, ()), due)
            self.check(((), (("d", block),)), due)

    def test_programs(self):
        for program in PROGRAMS:
            self.check(program, None)
            self.assertIsNone(program_error(value=program))

    def test_pairs(self):
        for value in (
            (), ((),), ((), (), ()), [(), ()], ([], ()), ((), []), (None, ()), ((), None), ((), {}), "", None, 0,
            ((), ((),)), ((), (("d",),)), ((), (("d", (), ()),)), ((), (["d", ()],)), ((), (("d", []),)),
            ((), ("d", ())), ((), ((1, ()),)), ((), ((("d",), ()),)),
        ):
            self.check(value, "form")

    def test_twenty_statements(self):
        for size, due in ((0, None), (1, None), (20, None), (21, "form"), (400, "form")):
            block = END * size
            for program in ((block, ()), ((("loop", block),), ()), ((), (("d", block),)), ((("if", 1, (), block),), ())):
                self.check(program, due)

    def test_six_defs(self):
        for size, due in ((0, None), (1, None), (6, None), (7, "form"), (26, "form")):
            self.check(((), tuple((letter, ()) for letter in LETTERS[:size])), due)

    def test_different_words(self):
        self.check(((), (("a", ()), ("b", ()), ("a", END))), "form")
        self.check(((), (("a", ()), ("a", ()))), "form")
        self.check(((), (("a", ()), ("aa", ()))), None)

    def test_words(self):
        for word, due in (
            ("", "form"), ("a", None), ("z", None), ("abcdef", None), ("abcdefg", "form"), ("A", "form"),
            ("aB", "form"), ("a1", "form"), ("a b", "form"), ("a_", "form"), (" a", "form"), ("a\n", "form"),
            ("\u00e4", "form"), ("\u0131", "form"), ("`", "form"), ("{", "form"), ("toss", None), ("plus", None),
            (None, "form"), (True, "form"), (3, "form"), (("a",), "form"), (["a"], "form"), ({"a": 1}, "form"),
        ):
            self.check(((), ((word, ()),)), due)
            self.check(((("set", word, 1),), ()), due)
            self.check(((("set", "x", ("plus", word, 1)),), ()), None if word == 3 else due)
            self.check(((("call", word),), ()), ("def", (-1, 0)) if due is None else due)
            self.check(((("end", word),), ()), None if word == 3 else due)

    def test_numbers(self):
        for number, due in (
            (0, None), (9, None), (10, "form"), (-1, "form"), (10 ** 59, "form"), (True, "form"), (False, "form"),
            (None, "form"), ("0", "form"), ([1], "form"), ((1,), "form"),
        ):
            self.check_statement(("end", number), due)
            self.check_statement(("set", "x", number), due)
            self.check_statement(("if", number, (), ()), due)
            self.check_statement(("end", ("alike", "x", ("less", number, 1))), due)

    def test_expressions(self):
        for word in ("plus", "less", "alike", "least"):
            self.check_statement(("end", (word, "x", 9)), None)
            for value in ((word,), (word, 1), (word, 1, 2, 3), [word, 1, 2], (word, 1, [2]), (word, (), 1)):
                self.check_statement(("end", value), "form")
        for value in (
            (), ("times", 1, 2), ("Plus", 1, 2), ("", 1, 2), (1, 2, 3), (None, 1, 2), (["plus"], 1, 2),
            ({}, 1, 2), (("plus",), 1, 2), ("toss", 1, 2),
        ):
            self.check_statement(("end", value), "form")

    def test_nested_expressions(self):
        for depth, due in ((0, None), (1, None), (6, None), (7, "form"), (14, "form")):
            value = nest_expressions(depth)
            for statement in (("end", value), ("set", "y", value), ("if", value, (), ())):
                self.check_statement(statement, due)
            for side in (0, 1):
                value = "x"
                for _ in range(depth):
                    value = ("less", value, 1) if side else ("less", 1, value)
                self.check_statement(("end", value), due)
            if depth > 0:
                wide = ("plus", nest_expressions(depth - 1), nest_expressions(depth - 1))
                self.check_statement(("end", wide), due)

    def test_nested_blocks(self):
        for depth, due in ((1, None), (2, None), (6, None), (7, "form"), (9, "form")):
            for inner in ((), END):
                self.check((nest_blocks(depth, inner), ()), due)
                self.check(((), (("d", nest_blocks(depth, inner)),)), due)
            # One kind of block alone.
            for wrap in (
                lambda block: (("toss", block, ()),), lambda block: (("toss", (), block),),
                lambda block: (("if", 0, block, ()),), lambda block: (("if", 0, (), block),),
                lambda block: (("loop", block),),
            ):
                block = ()
                for _ in range(depth - 1):
                    block = wrap(block)
                self.check((block, ()), due)

    def test_statements(self):
        for statement in (
            ("toss", (), ()), ("set", "x", 1), ("if", 1, (), ()), ("loop", ()), ("end", 0),
        ):
            self.check_statement(statement, None)
            for wrong in (
                statement[:-1], (*statement, ()), list(statement), [statement], (statement[0].upper(), *statement[1:]),
                ("", *statement[1:]), (None, *statement[1:]), ([statement[0]], *statement[1:]),
            ):
                self.check_statement(wrong, "form")
        for wrong in (
            (), (1,), "leave", ("leave", ()), ("leave", 1), ("loop",), ("loop", [])  , ("loop", None), ("toss", (), []),
            ("toss", [], ()), ("toss", ((),), ()), ("if", 1, (), []), ("if", 1, [], ()), ("if", (), (), ()),
            ("set", "x", ()), ("set", ("x",), 1), ("call", ("d",)), ("call", 1), ("else", ()), ("never",),
            (("end",), 1), ({}, ()), None, 0, {},
        ):
            self.check_statement(wrong, "form")

    def test_any_value(self):
        for value in ANY:
            self.check(value, "form")
            for program in ((value, ()), ((value,), ()), ((), value), ((), (value,)), ((("loop", value),), ()),
                            ((("set", "x", value),), ()), ((("if", 1, (), (value,)),), ()), ((value, END), ())):
                self.assertEqual(program_error(program), plain_error(program), program)

    def test_programs_changed_at_one_place(self):
        for program in PROGRAMS:
            for value in list_changes(program):
                self.assertEqual(program_error(value), plain_error(value), value)


class Faults(unittest.TestCase):

    def check(self, program, due):
        self.assertEqual(program_error(program), due, program)
        self.assertEqual(plain_error(program), due, program)

    def test_example(self):
        self.check((LEAVE, ()), ("leave", (-1, 0)))

    def test_leave_needs_a_loop(self):
        self.check((END + LEAVE, ()), ("leave", (-1, 1)))
        self.check(((("loop", LEAVE),) + LEAVE, ()), ("leave", (-1, 1)))
        self.check(((("loop", ()), ("toss", (), LEAVE)), ()), ("leave", (-1, 1, 2, 0)))
        self.check(((("if", 1, END + LEAVE, ()),), ()), ("leave", (-1, 0, 2, 1)))
        self.check(((("if", 1, (), END + LEAVE),), ()), ("leave", (-1, 0, 3, 1)))
        self.check(((), (("a", ()), ("b", LEAVE))), ("leave", (1, 0)))
        self.check(((("loop", (("toss", (("if", 1, LEAVE, ()),), ()),)),), ()), None)

    def test_a_loop_around_the_call_does_not_count(self):
        self.check(((("loop", (("call", "d"),)),), (("d", LEAVE),)), ("leave", (0, 0)))
        self.check(((("loop", (("call", "d"),)),), (("d", (("loop", LEAVE),)),)), None)

    def test_calls_without_a_def(self):
        self.check(((("call", "d"),), ()), ("def", (-1, 0)))
        self.check(((("call", "d"),), (("e", ()),)), ("def", (-1, 0)))
        self.check(((("call", "d"),), (("d", (("loop", (("call", "e"),)),)),)), ("def", (0, 0, 1, 0)))
        self.check(((("toss", (), END + (("call", "e"),)),), (("d", ()),)), ("def", (-1, 0, 2, 1)))

    def test_first_in_order(self):
        call = ("call", "no")
        leave = ("leave",)
        self.check(((call, leave), ()), ("def", (-1, 0)))
        self.check(((leave, call), ()), ("leave", (-1, 0)))
        # The main block before the defs, and these in their order.
        self.check(((leave,), (("a", (call,)),)), ("leave", (-1, 0)))
        self.check(((), (("b", (call,)), ("a", (leave,)))), ("def", (0, 0)))
        self.check((END, (("b", ()), ("a", (leave,)))), ("leave", (1, 0)))
        # A statement before those within it, and these before the next one.
        self.check(((("if", 1, (("toss", (), (call,)),), (leave,)), leave), ()), ("def", (-1, 0, 2, 0, 2, 0)))
        self.check(((("toss", (), (leave,)), call), ()), ("leave", (-1, 0, 2, 0)))

    def test_form_comes_first(self):
        self.check((LEAVE + (("end", 10),), ()), "form")
        self.check(((("call", "no"),), (("a", ()), ("a", ()))), "form")

    def test_rings(self):
        def call(*words):
            return tuple(("call", word) for word in words)

        self.check(((), (("a", call("a")),)), ("ring", "a"))
        self.check((call("a"), (("a", call("b")), ("b", call("a")))), ("ring", "a"))
        self.check(((), (("b", call("a")), ("a", call("b")))), ("ring", "b"))
        # What only leads to a ring does not call itself.
        self.check(((), (("a", call("b")), ("b", call("c")), ("c", call("b")))), ("ring", "b"))
        self.check(((), (("a", call("b")), ("b", call("c")), ("c", call("c")))), ("ring", "c"))
        self.check(((), tuple((LETTERS[k], call(LETTERS[(k + 1) % 6])) for k in range(6))), ("ring", "a"))
        self.check(((), tuple((LETTERS[k], call(*LETTERS[k + 1:6])) for k in range(6))), None)
        self.check(((), (("a", call("b", "b", "c")), ("b", call("c", "c")), ("c", ()))), None)
        nested = (("loop", (("toss", (), (("if", 1, (), call("a")),)),)),)
        self.check(((), (("c", ()), ("a", nested))), ("ring", "a"))

    def test_rings_come_last(self):
        self.check(((), (("a", (("call", "a"),)), ("b", LEAVE))), ("leave", (1, 0)))
        self.check(((), (("a", (("call", "a"),)), ("b", (("call", "no"),)))), ("def", (1, 0)))

    def test_random(self):
        generator = make_generator(901)
        words = set()
        for _ in range(300):
            block, defs = random_program(generator)
            self.check((block, defs), None)
            # A loop taken away, the defs in another order, a def called by another one.
            unlooped = tuple(part for s in block for part in (s[1] if s[0] == "loop" else (s,)))
            shuffled = list(defs)
            generator.shuffle(shuffled)
            for program in (
                (unlooped[:20], defs), (block, tuple(shuffled)), (block, defs[1:]), (block, defs[:-1]),
                (block, tuple((word, (*part, ("call", defs[0][0]))) for word, part in defs)),
            ):
                error = program_error(program)
                self.assertEqual(error, plain_error(program))
                words.add(error if error is None else error[0])
        self.assertEqual(words, {None, "leave", "def", "ring"})


if __name__ == "__main__":
    unittest.main()
