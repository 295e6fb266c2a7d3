"""Promise 24: texts of values, and values of texts."""

import unittest
from math import comb

from bentcoin.errors import ParseError
from bentcoin.formats import (
    format_machine, format_program, format_rational, format_recipe, parse_machine, parse_program,
    parse_rational, parse_recipe,
)
from bentcoin.programs import program_error
from bentcoin.rationals import reduce_rational
from tests.claims import NOWHERE, RECIPES, STAYING
from tests.format_helpers import (
    plain_machine, plain_program, plain_rational, plain_recipe, read_machine, read_program, read_rational,
    read_recipe, wrong_line_of_machine, wrong_line_of_program,
)
from tests.helpers import make_generator, random_polynomial, random_rational
from tests.machine_helpers import COIN, FAIR, MACHINES, make_chain, random_machine
from tests.program_helpers import LETTERS, PROGRAMS, nest_blocks, nest_expressions, random_program

SIGNS = "0 1-/:\n+_xet,(\u0663\u00b2\t\r"
RATIONALS = (
    ((), (1,)), ((1,), (1,)), ((0, 1), (2, -1)), ((-1,), (2,)), ((0, 0, -3), (5, 0, 7)), *STAYING, *[q for q, _ in NOWHERE],
)
MORE_PROGRAMS = (
    *PROGRAMS,
    ((("leave",), ("call", "no")), (("a", (("call", "a"),)),)),
    ((("if", ("alike", "x", 2), (), ()), ("if", 0, (), (("leave",),)), ("toss", (), (("toss", (("loop", ()),), ()),))), ()),
    ((), tuple((letter, (("end", k),)) for k, letter in enumerate("fbedca"))),
    ((("set", "plus", ("plus", "plus", "least")), ("call", "heads"), ("loop", (("end", "tails"),))), (("heads", ()), ("def", ()))),
)


def text_changes(text):
    """Return texts with one character or one line changed, left out or repeated, and longer and shorter ones."""
    found = set()
    for k in range(len(text) + 1):
        found.add(text[:k] + text[k + 1:])
        found.add(text[:k])
        found.update(text[:k] + sign + text[k:] for sign in SIGNS)
        found.update(text[:k] + sign + text[k + 1:] for sign in SIGNS)
        if k < len(text):
            found.add(text[:k] + text[k] + text[k:])
            found.add(text[:k] + text[k].upper() + text[k + 1:])
    return sorted(found)


def line_changes(text):
    """Return texts with one line changed, left out, moved or repeated."""
    lines = text.split("\n")[:-1]
    others = ("", "toss", "heads", "tails", "else", "loop", "leave", "end 0", "if x", "def z", "call z", "set x 1", "never", "end 99", "toss 0 0")
    found = set()
    for k in range(len(lines) + 1):
        depths = {len(line) - len(line.lstrip(" ")) for line in lines[max(0, k - 1):k + 1]} | {0, 1, 2}
        changes = [[" " * depth + other] for other in others for depth in depths]
        if k < len(lines):
            changes += [[], [lines[k], lines[k]], ["  " + lines[k]], [lines[k][2:]], [lines[k] + " "], [" " + lines[k]]]
            changes += [[lines[k], " " * depth + other] for other in others for depth in depths]
        if k + 1 < len(lines):
            found.add("".join(line + "\n" for line in (*lines[:k], lines[k + 1], lines[k], *lines[k + 2:])))
        for change in changes:
            found.add("".join(line + "\n" for line in (*lines[:k], *change, *lines[k + 1:])))
    return sorted(found)


class Checked(unittest.TestCase):

    def check_text(self, parse, plain_parse, wrong_line, text):
        """Check that the text is accepted as plain_parse tells, or the number of the line that is wrong."""
        due = plain_parse(text)
        if due is not None:
            self.assertEqual(parse(text), due, repr(text))
            return True
        with self.assertRaises(ParseError, msg=repr(text)) as held:
            parse(text)
        self.assertEqual(held.exception.number, wrong_line(text), repr(text))
        return False

    def check_value(self, value, write, plain_write, parse):
        text = write(value)
        self.assertIs(type(text), str)
        self.assertEqual(text, plain_write(value))
        self.assertEqual(parse(text), value)
        self.assertEqual(parse(text=text), value)
        return text

    def assert_error(self, parse, text, number):
        with self.assertRaises(ParseError) as held:
            parse(text)
        self.assertEqual(held.exception.number, number, repr(text))


class Rationals(Checked):

    def check(self, text):
        return self.check_text(parse_rational, read_rational, lambda _: 0, text)

    def test_examples(self):
        self.assertEqual(format_rational(((0, 1), (2, -1))), "0 1 / 2 -1")
        self.assertEqual(format_rational(rational=((), (1,))), "0 / 1")
        self.assertEqual(parse_rational("0 1 / 2 -1"), ((0, 1), (2, -1)))

    def test_values(self):
        generator = make_generator(1001)
        drawn = [random_rational(generator, generator.randint(1, 6), generator.choice((1, 2, 9, 60))) for _ in range(60)]
        for rational in (*RATIONALS, *drawn):
            self.check_value(rational, format_rational, plain_rational, parse_rational)

    def test_changed_texts(self):
        accepted = 0
        for rational in (RATIONALS[0], RATIONALS[2], ((1, 0, -12), (10, 3)), RATIONALS[4], ((-1,), (20,))):
            for text in text_changes(plain_rational(rational)):
                accepted += self.check(text)
        self.assertGreater(accepted, 60)

    def test_other_texts(self):
        for text in (
            "", " ", "/", " / ", "1", "1 /", "/ 1", "1 / ", " / 1", "1/1", "1 /1", "1/ 1", "1 / 1 / 1", "1  / 1", "1 /  1",
            "0 / 0", "1 / 0", "0 / 2", "0 / -1", "0 0 / 1", "1 0 / 1", "1 / 1 0", "2 / 2", "2 / 4", "1 / -2", "0 1 / 0 1",
            "1 1 / 2 2", "1 -1 / -1 1", "-0 / 1", "00 / 1", "01 / 2", "+1 / 2", "1 / 2\n", "1 / 2 ", " 1 / 2", "1_0 / 3",
            "() / 1", "1 / x", "1.0 / 2", "1e1 / 3", "\u0661 / 2", "1\u00a0/ 2", "1 /\u00a02", "1, 2 / 3", "1 2 / 3 ,", "-/ 1", "- / 1",
        ):
            self.assertFalse(self.check(text))
            self.assert_error(parse_rational, text, 0)

    def test_long_texts(self):
        generator = make_generator(1002)
        for size, digits in ((41, 60), (700, 4), (2000, 1)):
            parts = [random_polynomial(generator, size, digits) for _ in range(2)]
            rational = reduce_rational(*[(generator.randint(1, 9), *part[1:]) for part in parts])
            self.assertEqual(parse_rational(format_rational(rational)), rational)
        both = " ".join(["1"] * 1500)
        self.assert_error(parse_rational, f"{both} / {both}", 0)
        for digits in (59, 60, 61, 4000):
            text = "1" + "0" * digits
            self.assertEqual(parse_rational(f"{text} / 3"), ((10 ** digits,), (3,)))
            self.assert_error(parse_rational, f"{text} / {text}", 0)
        self.assert_error(parse_rational, "1" * 4400 + " / " + "1" * 4400, 0)


class Recipes(Checked):

    def check(self, text):
        return self.check_text(parse_recipe, read_recipe, lambda _: 0, text)

    def test_examples(self):
        self.assertEqual(format_recipe((2, (0, 1, 0), (0, 2, 0))), "2: 0/0 1/2 0/0")
        self.assertEqual(format_recipe(recipe=(0, (0,), (1,))), "0: 0/1")
        self.assertEqual(parse_recipe("1: 0/1 1/1"), (1, (0, 1), (1, 1)))

    def test_values(self):
        rows = tuple(comb(40, k) for k in range(41))
        for recipe in (*[recipe for recipe, _ in RECIPES], (40, rows, rows), (40, (0,) * 41, rows)):
            self.check_value(recipe, format_recipe, plain_recipe, parse_recipe)

    def test_changed_texts(self):
        accepted = 0
        for recipe in ((2, (0, 1, 0), (0, 2, 0)), (0, (0,), (1,)), (3, (0, 1, 0, 0), (1, 3, 3, 1)), (1, (0, 1), (1, 1))):
            for text in text_changes(plain_recipe(recipe)):
                accepted += self.check(text)
        self.assertGreater(accepted, 20)

    def test_other_texts(self):
        for text in (
            "", ":", "0", "0:", "0: ", ": 0/1", "0:0/1", "0: 0/1 ", " 0: 0/1", "0 : 0/1", "0:  0/1", "0: 0/1\n", "0: 1/0", "0: 0/0",
            "0: 2/2", "0: 0/2", "0: -1/1", "0: 0/1/1", "0: 0", "0: 01", "0: 00/1", "-0: 0/1", "00: 0/1", "+0: 0/1", "1: 0/1",
            "1: 0/1 0/1 0/1", "1: 0/1  0/1", "1: 0/0 0/0", "2: 0/1 0/3 0/1", "-1:", "41:" + " 0/1" * 42, "2: 0/1 0/-1 0/1", "1: 0/1, 1/1",
        ):
            self.assertFalse(self.check(text))
            self.assert_error(parse_recipe, text, 0)


class Machines(Checked):

    def check(self, text):
        return self.check_text(parse_machine, read_machine, wrong_line_of_machine, text)

    def test_examples(self):
        self.assertEqual(format_machine(COIN), "toss 1 2\nend 1\nend 0\n")
        self.assertEqual(format_machine(machine=(("never",),)), "never\n")
        self.assert_error(parse_machine, "end 5\nend x\n", 1)

    def test_values(self):
        generator = make_generator(1003)
        drawn = [random_machine(generator, size, 100) for size in range(1, 61)]
        for machine in (*MACHINES, *drawn, make_chain(60)):
            self.check_value(machine, format_machine, plain_machine, parse_machine)

    def test_changed_texts(self):
        accepted = 0
        for machine in (COIN, FAIR, (("never",),), (("toss", 10, 0), *[("end", k) for k in (0, 9, 10, 99)] * 2, ("never",), ("end", 5))):
            for text in text_changes(plain_machine(machine)):
                accepted += self.check(text)
        for machine in MACHINES:
            for text in line_changes(plain_machine(machine)):
                accepted += self.check(text)
        self.assertGreater(accepted, 300)

    def test_numbers_of_lines(self):
        for text, number in (
            ("", 0), ("\n", 0), ("end 5", 0), ("x", 0), ("end 5\n\n", 1), ("end 5\nend 6", 1), ("end 5\nend x", 1), ("never\nnever", 1),
            # A successor that does not exist: too early, unless a line may not be continued so.
            ("toss 0 1\n", 1), ("toss 1 0\nend 0\ntoss 3 0\n", 3), ("toss 0 59\n", 1), ("toss 0 60\n", 0), ("toss 60 0\nend 0\n", 0),
            ("toss 0 5\nend x\n", 1), ("toss 0 5\nend 1", 1), ("toss 0 -1\n", 0), ("toss 0 00\n", 0), ("toss 0 01\nend 1\n", 0),
            ("end 100\n", 0), ("end 99\nend 100\n", 1), ("end -1\n", 0), ("end -0\n", 0), ("end 05\n", 0), ("end\n", 0), ("end 5 \n", 0),
            (" end 5\n", 0), ("end  5\n", 0), ("END 5\n", 0), ("never \n", 0), ("never 0\n", 0), ("toss 0\n", 0), ("toss 0 0 0\n", 0),
            ("toss\n", 0), ("end 5\r\n", 0), ("end 5\x0bend 6\n", 0), ("end 5\nend 6\r", 1), ("end 1_0\n", 0), ("end +1\n", 0), ("end \u0661\n", 0),
        ):
            self.assertFalse(self.check(text))
            self.assert_error(parse_machine, text, number)

    def test_sixty_and_sixty_one(self):
        for size in (59, 60):
            self.assertEqual(parse_machine("end 5\n" * size), (("end", 5),) * size)
        self.assert_error(parse_machine, "end 5\n" * 61, 60)
        self.assert_error(parse_machine, "end 5\n" * 60 + "x\n", 60)
        self.assert_error(parse_machine, "end 5\n" * 60 + "end 5", 60)
        self.assert_error(parse_machine, "end 5\n" * 60 + "\n", 60)
        self.assert_error(parse_machine, "toss 60 0\n" + "end 5\n" * 60, 0)
        self.assert_error(parse_machine, "end 5\n" * 30 + "x\n" + "end 5\n" * 40, 30)
        self.assertEqual(len(parse_machine("toss 59 0\n" + "end 5\n" * 59)), 60)
        self.assert_error(parse_machine, "toss 59 0\n" + "end 5\n" * 58, 59)


class Programs(Checked):

    def check(self, text):
        return self.check_text(parse_program, read_program, wrong_line_of_program, text)

    def test_examples(self):
        block = (("loop", (("toss", (("end", 1),), ()),)),)
        self.assertEqual(format_program((block, ())), "loop\n  toss\n  heads\n    end 1\n")
        self.assertEqual(format_program(program=((), ())), "")
        self.assertEqual(parse_program("end 3\n"), ((("end", 3),), ()))

    def test_all_statements(self):
        text = (
            "set x plus(x,1)\nif alike(x,2)\n  toss\n  tails\n    leave\nelse\n  call d\n  toss\n  heads\n    end x\n"
            "  tails\n    loop\nloop\n  loop\n    end least(less(9,x),0)\nif 0\nelse\n  toss\ndef d\ndef e\n  call e\n  end 9\n"
        )
        program = (
            (
                ("set", "x", ("plus", "x", 1)),
                ("if", ("alike", "x", 2), (("toss", (), (("leave",),)),), (("call", "d"), ("toss", (("end", "x"),), (("loop", ()),)))),
                ("loop", (("loop", (("end", ("least", ("less", 9, "x"), 0)),)),)),
                ("if", 0, (), (("toss", (), ()),)),
            ),
            (("d", ()), ("e", (("call", "e"), ("end", 9)))),
        )
        self.assertEqual(format_program(program), text)
        self.assertEqual(parse_program(text), program)
        self.assertTrue(self.check(text))

    def test_values(self):
        generator = make_generator(1004)
        for program in (*MORE_PROGRAMS, *[random_program(generator, 5) for _ in range(150)]):
            self.check_value(program, format_program, plain_program, parse_program)

    def test_errors_other_than_form_are_no_matter(self):
        for program, error in (
            (((("leave",),), ()), ("leave", (-1, 0))), (((("call", "x"),), ()), ("def", (-1, 0))),
            (((), (("a", (("call", "a"),)),)), ("ring", "a")),
        ):
            self.assertEqual(program_error(program), error)
            self.check_value(program, format_program, plain_program, parse_program)

    def test_changed_characters(self):
        accepted = 0
        for program in MORE_PROGRAMS:
            text = plain_program(program)
            for changed in text_changes(text) if len(text) < 90 else text_changes(text)[::17]:
                accepted += self.check(changed)
        self.assertGreater(accepted, 100)

    def test_changed_lines(self):
        accepted = 0
        for program in MORE_PROGRAMS:
            changed = line_changes(plain_program(program))
            for text in changed if len(changed) < 700 else changed[::3]:
                accepted += self.check(text)
        self.assertGreater(accepted, 1000)

    def test_drawn_lines(self):
        generator = make_generator(1005)
        accepted = 0
        lines = ("toss", "heads", "tails", "if x", "else", "loop", "end 1", "leave", "def a", "def b", "call a")
        for _ in range(3000):
            depth, text = 0, ""
            for _ in range(generator.randint(1, 7)):
                line = generator.choice(lines)
                text += "  " * depth + line + "\n"
                depth += 1 if line.split(" ")[0] in ("heads", "tails", "else", "loop", "def") else 0
                depth -= generator.choice((0, 0, 1, 2))
                depth = max(0, depth)
            accepted += self.check(text)
        self.assertGreater(accepted, 100)

    def test_numbers_of_lines(self):
        for text, number in (
            ("\n", 0), ("end 3", 0), ("end 3\nend 4", 1), ("end 3\n\n", 1), ("  end 3\n", 0), (" end 3\n", 0), ("x\n", 0), ("end\n", 0),
            # Too early.
            ("toss\nheads\n", 2), ("toss\ntails\n", 2), ("if 1\nelse\n", 2), ("loop\n  toss\n  heads\n", 3), ("toss\nheads\n  if x\n  else\n", 4),
            # Too early, but for another line.
            ("toss\nheads\nend 1\n", 2), ("toss\nheads\ntails\n  end 1\n", 2), ("if 1\nelse\nelse\n", 2), ("toss\nheads\n  end 1", 2), ("toss\nheads", 1),
            ("toss\nheads\n  heads\n", 2), ("toss\nheads\n    end 1\n", 2), ("if 1\nelse\n  \n", 2), ("toss\ntails\ndef a\n", 2),
            # Words that nothing introduces.
            ("heads\n", 0), ("tails\n", 0), ("else\n", 0), ("toss\nelse\n", 1), ("if 1\nheads\n", 1), ("loop\ntails\n", 1), ("end 1\nheads\n", 1),
            ("toss\ntails\n  end 1\nheads\n", 3), ("toss\nheads\n  end 1\nheads\n", 3), ("toss\nheads\n  end 1\nend 2\ntails\n", 4),
            ("if 1\nelse\n  end 1\nelse\n", 3), ("toss\n  heads\n", 1), ("toss\n  end 1\n", 1), ("if 1\nend 2\nelse\n", 2), ("leave\n  end 1\n", 1),
            ("loop\n  toss\nheads\n", 2), ("loop\n  toss\n    heads\n", 2), ("loop\n    end 1\n", 1), ("loop\n   end 1\n", 1), ("loop\n end 1\n", 1),
            # Defs.
            ("def a\ndef a\n", 1), ("def a\nend 1\n", 1), ("def a\n  end 1\nend 1\n", 2), ("  def a\n", 0), ("loop\n  def a\n", 1), ("def A\n", 0),
            ("def abcdefg\n", 0), ("def\n", 0), ("def a b\n", 0), ("def a \n", 0), ("def  a\n", 0), ("def a", 0), ("def a\n  def b\n", 1),
            ("def a\n  toss\n  heads\ndef b\n", 3), ("def a\ndef b\n  end 1\n  end 2\ndef b\n", 4),
            # Words and expressions.
            ("set x\n", 0), ("set x 1 2\n", 0), ("set X 1\n", 0), ("set 1 x\n", 0), ("set x -1\n", 0), ("set x 10\n", 0), ("set x 01\n", 0),
            ("set x plus(x, 1)\n", 0), ("set x plus(x,1\n", 0), ("set x plus(x,1))\n", 0), ("set x plus(x)\n", 0), ("set x plus(x,1,2)\n", 0),
            ("set x plus\n", None), ("set x plus()\n", 0), ("set x times(1,2)\n", 0), ("set x (1,2)\n", 0), ("set x plus (1,2)\n", 0), ("set x 1 \n", 0),
            ("set x plus(,1)\n", 0), ("set x plus(1,)\n", 0), ("set x Plus(1,2)\n", 0), ("set x plus(1,2)3\n", 0), ("set x ,\n", 0), ("set x )\n", 0),
            ("set x 1,\n", 0), ("set x x)\n", 0), ("set x plus(plus(1,2,3)\n", 0), ("set x plus(1(2,3),4)\n", 0),
            ("end 1 2\n", 0), ("end x y\n", 0), ("end +1\n", 0), ("end 1_0\n", 0), ("end \u0661\n", 0), ("end \u00e4\n", 0), ("leave 1\n", 0), ("loop 1\n", 0),
            ("toss 1 2\n", 0), ("call\n", 0), ("call 1\n", 0), ("call plus(1,2)\n", 0), ("call abcdefg\n", 0), ("if\n", 0), ("if 1 \n", 0), ("if X\n", 0),
            ("end 3\r\n", 0), ("end 3\x0cend 4\n", 0), ("\tend 3\n", 0), ("Loop\n", 0), ("toss\nheads \n", 1), ("if 1\nelse \n", 1), ("end 3 \n", 0),
        ):
            self.assertEqual(self.check(text), number is None)
            if number is not None:
                self.assert_error(parse_program, text, number)

    def test_twenty_statements(self):
        self.assertEqual(len(parse_program("leave\n" * 20)[0]), 20)
        self.assert_error(parse_program, "leave\n" * 21, 20)
        self.assert_error(parse_program, "leave\n" * 20 + "x\n", 20)
        self.assertEqual(len(parse_program("leave\n" * 20 + "def a\n")[0]), 20)
        self.assertEqual(len(parse_program("def a\n" + "  leave\n" * 20)[1][0][1]), 20)
        self.assert_error(parse_program, "def a\n" + "  leave\n" * 21, 21)
        self.assert_error(parse_program, "loop\n" + "  leave\n" * 21 + "end 1\n", 21)
        self.assertEqual(len(parse_program("loop\n" + "  leave\n" * 20 + "end 1\n")[0]), 2)
        # The twentieth one has branches.
        text = "leave\n" * 19 + "toss\nheads\n  end 1\ntails\n  end 2\n"
        self.assertTrue(self.check(text))
        self.assert_error(parse_program, text + "leave\n", 24)
        text = "leave\n" * 19 + "if x\nelse\n  end 2\n"
        self.assertTrue(self.check(text))
        self.assert_error(parse_program, text + "else\n", 22)

    def test_six_defs(self):
        six = "".join(f"def {letter}\n  leave\n" for letter in LETTERS[:6])
        self.assertEqual(len(parse_program(six)[1]), 6)
        self.assert_error(parse_program, six + "def z\n", 12)
        self.assert_error(parse_program, six + "def a\n", 12)

    def test_nested_blocks(self):
        for inner in ((), (("end", 1),), (("leave",), ("set", "x", 1), ("call", "d"))):
            for program in ((nest_blocks(6, inner), ()), ((), (("d", nest_blocks(6, inner)),))):
                self.check_value(program, format_program, plain_program, parse_program)
        # Blocks count though they are empty, so a statement with a block is told by its own line.
        opens = {"loop": "loop\n", "if x": "if x\n", "toss": "toss\nheads\n", "else": "if x\nelse\n", "tails": "toss\ntails\n"}
        for text in opens.values():
            lines = text.splitlines()
            for level, defs in ((0, ""), (1, "def d\n")):
                whole = defs
                for depth in range(5):
                    whole += "".join("  " * (level + depth) + line + "\n" for line in lines)
                margin = "  " * (level + 5)
                self.assertTrue(self.check(whole + margin + "leave\n"))
                number = whole.count("\n")
                for last in ("loop", "if x", "toss"):
                    self.assert_error(parse_program, whole + margin + last + "\n", number)
                    self.assertFalse(self.check(whole + margin + "leave\n" + margin + last + "\n"))
                for other in ("end x", "set x 1", "call y"):
                    self.assertTrue(self.check(whole + margin + other + "\n"))

    def test_nested_expressions(self):
        for depth in range(1, 7):
            program = ((("end", nest_expressions(depth)),), ())
            self.check_value(program, format_program, plain_program, parse_program)
        for word in ("end {}\n", "set x {}\n", "if {}\n"):
            for left, right in (("plus(", ",1)"), ("plus(1,", ")"), ("plus(plus(x,y),", ")")):
                for depth in (5, 6, 7, 8, 1000):
                    text = "leave\n" + word.format(left * depth + "1" + right * depth)
                    if depth < 6 or depth == 6 and "x" not in left:
                        self.assertTrue(self.check(text))
                    else:
                        self.assert_error(parse_program, text, 1)
        self.assert_error(parse_program, "end " + "plus(" * 1700, 0)
        self.assert_error(parse_program, "end " + "1" * 8900 + "\n", 0)

    def test_long_texts(self):
        block = (("if", ("plus", ("less", "abcdef", 1), "ghijkl"), (("leave",),) * 20, ()),) * 20
        program = (block, (("d", block),))
        self.check_value(program, format_program, plain_program, parse_program)


class Kinds(Checked):

    def test_the_text_of_one_kind_for_another(self):
        texts = {
            parse_rational: ["1 / 2", "0 / 1"], parse_recipe: ["0: 0/1"], parse_machine: ["end 5\n", "toss 0 0\n"],
            parse_program: ["", "toss\n", "end x\n"],
        }
        for parse, own in texts.items():
            for other, others in texts.items():
                for text in others:
                    if text in own or (parse is parse_program and text == "end 5\n"):
                        parse(text)
                    else:
                        self.assertRaises(ParseError, parse, text)


if __name__ == "__main__":
    unittest.main()
