"""Promise 25: the console."""

import unittest

from bentcoin.console import Console
from bentcoin.errors import (
    CyclicDefinition, InvalidCoin, InvalidDefinition, LimitExceeded, MayNotTerminate, NameInUse, ParseError,
    StepLimitExceeded, UnknownCheckpoint, UnknownName,
)
from bentcoin.formats import format_machine, format_program, format_rational, format_recipe
from bentcoin.registry import Registry
from tests.claims import NOWHERE, STAYING
from tests.machine_helpers import COIN, FAIR, HALF_TRAP, make_chain
from tests.program_helpers import FAIR_PROGRAM, NEVER_AT_ONCE, PROGRAMS, TOSS_ONCE, straight_line

COIN_TEXT = "toss 1 2\nend 1\nend 0\n"
SWAPPED_TEXT = "toss 2 1\nend 1\nend 0\n"
SQUARE_TEXT = "toss 1 3\ntoss 2 3\nend 1\nend 0\n"
RECIPE_TEXT = "2: 0/0 1/2 0/0"
QUESTIONS = ("chance a 1", "never a", "mean a", "alike a b", "wish a: 1 / 2", "wish -: 0 2 / 1")


def make_console():
    """Return a console with the coins a, b and c."""
    console = Console()
    console.execute("let a - machine\n" + COIN_TEXT)
    console.execute("let b a recipe\n" + RECIPE_TEXT)
    console.execute("let c b program\n" + format_program(FAIR_PROGRAM))
    return console


class Checked(unittest.TestCase):

    def assert_raises(self, error, argument, console, command):
        """Check the error, that it is in the log, and that nothing else has changed."""
        before, state = len(console.log()), self.state(console)
        with self.assertRaises(error, msg=repr(command)) as held:
            console.execute(command)
        self.assertIs(type(held.exception), error)
        self.assertEqual(list(vars(held.exception).values()), [argument], repr(command))
        self.assertEqual(len(console.log()), before + 2)
        self.assertEqual(console.log()[before:], [(before // 2, "in"), (before // 2, "out")])
        self.assertEqual(self.state(console), state)

    def state(self, console):
        """Return what the registry of a console holds."""
        registry = console.registry
        return (registry.list_names(), registry.records(), registry.invalidated())

    def check_invalid(self, console, command):
        self.assert_raises(ParseError, -1, console, command)


class Commands(Checked):

    def test_examples(self):
        console = Console()
        first = console.execute("let coin - machine\ntoss 1 2\nend 1\nend 0\n")
        told = (first, console.execute("chance coin 1"), console.execute("wish coin: 1 / 2"))
        self.assertEqual(told, ("ok", "0 1 / 1", "recipe 2: 0/0 1/2 0/0"))
        console = Console()
        self.assertEqual(console.execute(command="kept"), "none")
        self.assertEqual(console.log(), [(0, "in"), (0, "out")])

    def test_let(self):
        console = Console()
        for command in (
            "let a - machine\n" + COIN_TEXT, "let b a machine\n" + SQUARE_TEXT, "let abcdef b recipe\n" + RECIPE_TEXT,
            "let e abcdef program\n", "let e - program\n" + format_program(TOSS_ONCE), "let let - machine\nnever\n",
            "let kept a machine\nend 0\n", "let a - recipe\n1: 0/1 1/1",
        ):
            self.assertEqual(console.execute(command), "ok", command)
        self.assertEqual(self.state(console)[0], ["a", "abcdef", "b", "e", "kept", "let"])
        self.assertEqual(console.execute("chance abcdef 1"), "1 / 2")
        self.assertEqual(console.execute("chance b 1"), "0 0 1 / 1")
        self.assertEqual(console.execute("never let"), "1 / 1")

    def test_all_values(self):
        for kind, write, values in (
            ("machine", format_machine, [COIN, FAIR, HALF_TRAP, make_chain(60)]),
            ("program", format_program, [program for program in PROGRAMS]),
            ("recipe", format_recipe, [(2, (0, 1, 0), (0, 2, 0)), (0, (1,), (1,)), (5, (0, 3, 7, 1, 5, 0), (1, 4, 7, 8, 5, 0))]),
        ):
            for value in values:
                console, registry = Console(), Registry()
                self.assertEqual(console.execute(f"let x - {kind}\n{write(value)}"), "ok")
                registry.define("x", kind, value, None)
                for command, question in (("never x", ("never", "x")), ("chance x 3", ("chance", "x", 3)), ("chance x 0", ("chance", "x", 0))):
                    if len(value) < 60:
                        self.assertEqual(console.execute(command), format_rational(registry.query(question)))

    def test_drop(self):
        console = make_console()
        self.assertEqual(console.execute("drop c"), "ok")
        self.assertEqual(self.state(console)[0], ["a", "b"])
        self.assert_raises(UnknownName, "c", console, "drop c")
        self.assert_raises(NameInUse, ("b",), console, "drop a")

    def test_rational_functions(self):
        console = make_console()
        console.execute("let trap a machine\ntoss 1 2\nend 3\nnever\n")
        for command, due in (
            ("chance a 1", "0 1 / 1"), ("chance a 0", "1 -1 / 1"), ("chance a 5", "0 / 1"), ("chance a 99", "0 / 1"), ("chance c 1", "1 / 2"),
            ("never a", "0 / 1"), ("never trap", "1 -1 / 1"), ("mean a", "1 / 1"), ("mean b", "1 / 0 1 -1"), ("mean c", "4 / 0 1 -1"),
            ("chance trap 3", "0 1 / 1"),
        ):
            self.assertEqual(console.execute(command), due, command)
        with self.assertRaises(MayNotTerminate):
            console.execute("mean trap")

    def test_alike(self):
        console = make_console()
        console.execute("let back - machine\n" + SWAPPED_TEXT)
        console.execute("let far - machine\ntoss 1 2\nend 1\nend 42\n")
        console.execute("let more - machine\nend 42\n")
        for command, due in (
            ("alike a a", "alike"), ("alike b c", "alike"), ("alike a b", "1/3 0"), ("alike b a", "1/3 0"), ("alike a back", "1/3 0"),
            ("alike a far", "1/2 0"), ("alike far more", "1/2 1"), ("alike more more", "alike"),
        ):
            self.assertEqual(console.execute(command), due, command)

    def test_wish(self):
        console = make_console()
        for name in ("a", "b", "c", "-"):
            for q in STAYING:
                result = Registry().query(("wish", q, None))[0]
                due = "recipe " + format_recipe(result[1]) if result[0] == "recipe" else result[0]
                self.assertEqual(console.execute(f"wish {name}: {format_rational(q)}"), due)
            for q, _ in NOWHERE:
                self.assertEqual(console.execute(f"wish {name}: {format_rational(q)}"), "none")
            self.assertEqual(console.execute(f"wish {name}: 1 / 1000000"), "dear")
            self.assertEqual(console.execute(f"wish {name}: 0 / 1"), "recipe 0: 0/1")
            # (1 - 3 p)^2 and a little more.
            almost = f"1{'0' * 44}1 -6{'0' * 45} 9{'0' * 45} / 1{'0' * 50}"
            self.assertEqual(console.execute(f"wish {name}: {almost}"), "unsettled")

    def test_keep_and_kept(self):
        console = make_console()
        self.assertEqual(console.execute("kept"), "none")
        for k, question in enumerate(QUESTIONS):
            self.assertEqual(console.execute("keep " + question), str(k))
        self.assertEqual(console.execute("kept"), "0 1 2 3 4 5")
        records = console.registry.records()
        self.assertEqual(records[0], (("chance", "a", 1), ((0, 1), (1,))))
        self.assertEqual(records[3], (("alike", "a", "b"), ((1, 3), 0)))
        self.assertEqual(records[5][0], ("wish", ((0, 2), (1,)), None))
        console.execute("let b a machine\n" + COIN_TEXT)
        self.assertEqual(console.execute("kept"), "0 1 2 4 5")
        console.execute("let a - machine\n" + COIN_TEXT)
        self.assertEqual(console.execute("kept"), "5")
        self.assertEqual(console.execute("keep never a"), "6")
        self.assertEqual(console.execute("kept"), "5 6")

    def test_mark_and_back(self):
        console = make_console()
        console.execute("keep chance a 1")
        self.assertEqual(console.execute("mark"), "0")
        console.execute("let a - machine\n" + SWAPPED_TEXT)
        console.execute("drop c")
        self.assertEqual((console.execute("mark"), console.execute("mark"), console.execute("kept")), ("1", "2", "none"))
        self.assertEqual(console.execute("back 0"), "ok")
        self.assertEqual((console.execute("kept"), console.execute("chance a 1"), console.execute("chance c 1")), ("0", "0 1 / 1", "1 / 2"))
        self.assert_raises(UnknownCheckpoint, 1, console, "back 1")
        self.assert_raises(UnknownCheckpoint, 10 ** 50, console, "back 1" + "0" * 50)
        self.assertEqual((console.execute("mark"), console.execute("keep mean a")), ("1", "1"))


class Errors(Checked):

    def test_commands_that_are_not_valid(self):
        console = make_console()
        console.execute("keep chance a 1")
        console.execute("mark")
        for command in (
            "", " ", "\n", "let", "drop", "chance", "never", "mean", "alike", "wish", "keep", "back", "what", "Let a - machine\nend 0\n",
            # Empty words: two spaces, or one at an end.
            " kept", "kept ", "mark ", " mark", "drop  c", "drop c ", " drop c", "chance  a 1", "chance a  1", "chance a 1 ", "never a ", "never  a",
            "mean a ", "alike a  b", "alike a b ", "wish a:  1 / 2", "wish a: 1 / 2 ", "wish  a: 1 / 2", "wish a : 1 / 2", "keep  never a", "keep never a ",
            "back 0 ", "back  0",
            # Words too few or too many.
            "kept 0", "mark 0", "kept kept", "drop a b", "chance a", "chance a 1 2", "chance 1", "never a b", "mean a 1", "alike a", "alike a b c",
            "back", "back 0 0", "wish a:", "wish a", "wish a 1 / 2", "wish - 1 / 2", "what a: 1 / 2", "chance a: 1 / 2", "keep a: 1 / 2", "wish 1 / 2", "wish: 1 / 2", "keep", "keep a",
            # Numbers.
            "chance a 01", "chance a -1", "chance a -0", "chance a +1", "chance a x", "chance a 1_0", "chance a \u0661", "chance a 1.0", "chance a 00",
            "back 00", "back -1", "back 01", "back x", "back +0", "back a",
            # Names.
            "drop A", "drop abcdefg", "drop -", "drop a1", "never -", "mean -", "chance - 1", "alike a -", "alike - a", "chance A 1", "never \u00e4",
            "wish A: 1 / 2", "wish --: 1 / 2", "wish : 1 / 2", "wish a:: 1 / 2", "wish abcdefg: 1 / 2", "wish -:: 1 / 2",
            # Rational functions.
            "wish a: 2 / 4", "wish a: 1 / -2", "wish a: 1 / 0", "wish a: 0 0 / 1", "wish a: 1", "wish a: 1/2", "wish a: 1 / 2 / 3", "wish a: 01 / 2",
            "wish a: 1 1 / 2 2", "wish a: x / 2", "wish a: 1 / 2\n", "wish a:1 / 2", "wish a: / 2", "wish -: 2 / 4",
            # What may not be kept.
            "keep keep never a", "keep kept", "keep mark", "keep drop a", "keep back 0", "keep let x - machine\nend 0\n", "keep wish a: 2 / 4",
            "keepnever a", "KEPT", "Kept", "kept\n", "mark\n", "never a\n", "drop a\n", "back 0\n", "chance a 1\n", "kept\t", "never\ta",
        ):
            self.check_invalid(console, command)

    def test_let_that_is_not_valid(self):
        console = make_console()
        for command in (
            "let x - machine", "let x - program", "let x - recipe " + RECIPE_TEXT, "let x -\nend 0\n", "let x machine\nend 0\n", "let x\nend 0\n",
            "let x - machine end 0\n", "let x - machines\nend 0\n", "let x - Machine\nend 0\n", "let x - coin\nend 0\n", "let x  - machine\nend 0\n",
            "let  x - machine\nend 0\n", "let x - machine \nend 0\n", " let x - machine\nend 0\n", "let X - machine\nend 0\n", "let - - machine\nend 0\n",
            "let abcdefg - machine\nend 0\n", "let x A machine\nend 0\n", "let x -- machine\nend 0\n", "let x a b machine\nend 0\n", "let\nend 0\n",
            "let \nend 0\n", "let x - machine\r\nend 0\n", "let x a\nmachine\nend 0\n", "let x  machine\nend 0\n", "\nlet x - machine\nend 0\n",
        ):
            self.check_invalid(console, command)

    def test_texts_that_are_not_valid(self):
        console = make_console()
        for command, number in (
            ("let x - machine\n", 0), ("let x - machine\nend 0", 0), ("let x - machine\nend 0\nend x\n", 1), ("let x - machine\ntoss 0 1\n", 1),
            ("let x - machine\n\nend 0\n", 0), ("let x - machine\nend 0 \n", 0), ("let x - machine\n" + RECIPE_TEXT, 0), ("let x - program\n\n", 0),
            ("let x - program\nend 0\nend", 1), ("let x - program\ntoss\nheads\n", 2), ("let x - recipe\n", 0), ("let x - recipe\n" + RECIPE_TEXT + "\n", 0),
            ("let x - recipe\n1: 0/1 1/2", 0), ("let x - recipe\nend 0\n", 0), ("let x - machine\n" + "end 0\n" * 61, 60),
        ):
            self.assert_raises(ParseError, number, console, command)

    def test_empty_text(self):
        console = Console()
        self.assertEqual(console.execute("let x - program\n"), "ok")
        self.assertEqual(console.execute("chance x 0"), "1 / 1")

    def test_order(self):
        console = make_console()
        # The command before the text, and both before the registry.
        self.check_invalid(console, "let X no machine\nend x\n")
        self.check_invalid(console, "let x NO machine\nend x\n")
        self.assert_raises(ParseError, 0, console, "let x no machine\nend x\n")
        self.assert_raises(ParseError, 1, console, "let a a machine\nend 0\nend x\n")
        self.assert_raises(UnknownName, "no", console, "let x no machine\nend 0\n")
        self.check_invalid(console, "wish no: 2 / 4")
        self.assert_raises(UnknownName, "no", console, "wish no: 1 / 2")
        self.check_invalid(console, "chance no 01")
        self.check_invalid(console, "keep wish no: 2 / 4")

    def test_errors_of_the_registry(self):
        console = make_console()
        console.execute("let big - machine\n" + format_machine(make_chain(14)))
        console.execute("let trap - machine\n" + format_machine(HALF_TRAP))
        console.execute("let wide a machine\n" + format_machine(tuple(("toss", k + 1, 12) for k in range(11)) + (("toss", 12, 13), ("end", 1), ("end", 0))))
        console.execute("let far wide machine\n" + format_machine((*[("toss", k + 1, 7) for k in range(5)], ("toss", 6, 7), ("end", 1), ("end", 0))))
        for error, argument, command in (
            (UnknownName, "no", "let x no machine\n" + COIN_TEXT), (InvalidCoin, "ends", "let x trap machine\n" + COIN_TEXT),
            (InvalidDefinition, ("leave", (-1, 0)), "let x - program\nleave\n"), (InvalidDefinition, ("def", (-1, 1)), "let x - program\nend 0\ncall d\n"),
            (InvalidDefinition, ("ring", "d"), "let x - program\ndef d\n  call d\n"),
            (LimitExceeded, 5, "let x - recipe\n6: " + " ".join(["0/1"] * 7)), (StepLimitExceeded, 300, "let x - program\n" + format_program((straight_line(301), ()))),
            (CyclicDefinition, ("a", "c", "b", "a"), "let a c machine\n" + COIN_TEXT), (InvalidCoin, "sure", "let a - machine\nend 1\n"),
            (InvalidCoin, "ends", "let a - program\n" + format_program(NEVER_AT_ONCE)), (UnknownName, "x", "drop x"), (NameInUse, ("b", "wide"), "drop a"),
            (UnknownName, "x", "chance x 1"), (UnknownName, "x", "alike a x"), (UnknownName, "y", "alike y x"), (UnknownName, "x", "keep mean x"),
            (InvalidCoin, "answers", "wish big: 1 / 2"), (InvalidCoin, "ends", "wish trap: 1 / 2"), (LimitExceeded, 12, "chance big 3"),
            (LimitExceeded, 60, "chance far 1"), (LimitExceeded, 60, "keep wish far: 1 / 2"), (UnknownCheckpoint, 0, "back 0"),
            (MayNotTerminate, ("T", (2,)), "mean trap"),
        ):
            self.assert_raises(error, argument, console, command)

    def test_names_that_are_words_of_commands(self):
        console = Console()
        words = ("let", "drop", "chance", "never", "mean", "alike", "wish", "keep", "kept", "mark", "back", "none", "recipe")
        for word in words:
            self.assertEqual(console.execute(f"let {word} - machine\n{COIN_TEXT}"), "ok")
        for word in words:
            self.assertEqual(console.execute(f"chance {word} 1"), "0 1 / 1")
            self.assertEqual(console.execute(f"wish {word}: 0 1 / 1"), "recipe 1: 0/1 1/1")
            self.assertEqual(console.execute(f"alike {word} keep"), "alike")
        self.assertEqual(console.execute("keep never keep"), "0")
        self.assertEqual(console.execute("drop drop"), "ok")
        self.assertEqual(len(console.registry), len(words) - 1)


class Logs(Checked):

    def test_log(self):
        console = Console()
        self.assertEqual(console.log(), [])
        commands = ["let a - machine\n" + COIN_TEXT, "what", "mark", "drop no", "let b - machine\nx\n", "back 0", "back 7", "kept", "chance a 1"]
        for k, command in enumerate(commands):
            try:
                console.execute(command)
            except LookupError:
                pass
            self.assertEqual(console.log(), [(j, word) for j in range(k + 1) for word in ("in", "out")])

    def test_new_list(self):
        console = Console()
        console.execute("kept")
        console.log().clear()
        self.assertEqual(console.log(), [(0, "in"), (0, "out")])
        self.assertTrue(all(type(pair) is tuple for pair in console.log()))

    def test_two_consoles(self):
        one, other = make_console(), Console()
        self.assertEqual(other.log(), [])
        self.assert_raises(UnknownName, "a", other, "never a")
        self.assertEqual(len(one.log()), 6)


if __name__ == "__main__":
    unittest.main()
