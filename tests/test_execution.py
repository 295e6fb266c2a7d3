"""Promise 21: programs on tapes, and the machines that simulate them."""

import unittest

from bentcoin.errors import LimitExceeded, StepLimitExceeded
from bentcoin.execution import MAX_PROGRAM_STATES, MAX_STEPS, compile_program, run_program
from bentcoin.machines import machine_error, run_machine
from bentcoin.probabilities import answer_probability
from bentcoin.programs import program_error
from tests.helpers import make_generator
from tests.machine_helpers import random_tape
from tests.program_helpers import (
    CALLS, EMPTY_BLOCKS, FAIR_PROGRAM, LEAVES, NEVER_AT_ONCE, PROGRAMS, SAME_BUT_CALL, TOSS_ONCE, UNREAD,
    Steps, all_tapes, counting_program, first_limit, plain_run_program, random_program, straight_line,
)

TAPES = all_tapes(6)
SET = ("set", "x", 1)
TOSS = ("toss", (), ())
# Comes back to its statement after two steps, one of them for the first round.
SPIN = ("loop", (("set", "w", 0),))


def outcome(run, *arguments):
    """Return the result, or the number of the step limit that is exceeded."""
    try:
        return run(*arguments)
    except (StepLimitExceeded, Steps) as error:
        return ("steps", getattr(error, "limit", 300))


class Runs(unittest.TestCase):

    def check(self, program, tapes=TAPES):
        self.assertIsNone(program_error(program), program)
        results = []
        for tape in tapes:
            result = outcome(run_program, program, tape)
            self.assertEqual(result, outcome(plain_run_program, program, tape), (program, tape))
            results.append(result)
        return results

    def test_example(self):
        self.assertEqual(run_program(TOSS_ONCE, "TTH"), ("ended", 1, 3))
        self.assertEqual(run_program(tape="TTH", program=TOSS_ONCE), ("ended", 1, 3))
        self.assertEqual((MAX_STEPS, MAX_PROGRAM_STATES), (300, 48))

    def test_programs(self):
        for program in PROGRAMS:
            self.check(program)

    def test_some_results(self):
        for program, tape, due in (
            (((), ()), "", ("ended", 0, 0)), (((), ()), "HT", ("ended", 0, 0)), (TOSS_ONCE, "", ("going", 0)),
            (TOSS_ONCE, "TT", ("going", 2)), (TOSS_ONCE, "TTHTT", ("ended", 1, 3)),
            (FAIR_PROGRAM, "HHT", ("going", 3)), (FAIR_PROGRAM, "HHHT", ("ended", 1, 4)),
            (NEVER_AT_ONCE, "", ("never", 0)), (NEVER_AT_ONCE, "HH", ("never", 0)),
            (EMPTY_BLOCKS, "H", ("going", 1)), (EMPTY_BLOCKS, "HHT", ("never", 2)), (EMPTY_BLOCKS, "HT", ("ended", 0, 2)),
            (CALLS, "TTTTTT", ("going", 6)), (UNREAD, "HT", ("ended", 0, 2)),
            ((((TOSS, ("loop", ())), ())), "T", ("never", 1)), (((TOSS,), ()), "T", ("ended", 0, 1)),
        ):
            self.assertEqual(run_program(program, tape), due, (program, tape))

    def test_expressions(self):
        for expression, due in (
            (0, 0), (9, 9), ("x", 4), ("q", 0), (("plus", 4, 5), 9), (("plus", 5, 5), 9), (("plus", 9, 9), 9),
            (("plus", "x", 1), 5), (("less", 4, 5), 0), (("less", 5, 4), 1), (("less", "x", "x"), 0),
            (("less", 9, "x"), 5), (("alike", "x", 4), 1), (("alike", "x", 5), 0), (("alike", 0, "q"), 1),
            (("least", "x", 9), 4), (("least", 2, "x"), 2), (("plus", ("less", 3, 7), ("least", 3, "x")), 3),
            (("less", ("plus", 9, 9), 1), 8),
        ):
            self.assertEqual(run_program(((("set", "x", 4), ("end", expression)), ()), ""), ("ended", due, 0))
            chosen = 1 if due != 0 else 2
            block = (("set", "x", 4), ("if", expression, (("end", 1),), (("end", 2),)))
            self.assertEqual(run_program((block, ()), ""), ("ended", chosen, 0))

    def test_variables(self):
        # They are shared by all defs, begin at 0, and keep their value behind a call and a toss.
        block = (("call", "add"), TOSS, ("call", "add"), ("set", "y", "x"), ("end", ("plus", "y", "zero")))
        program = (block, (("add", (("set", "x", ("plus", "x", 2)),)),))
        self.assertEqual(run_program(program, "T"), ("ended", 4, 1))
        self.assertEqual(run_program(((("set", "x", ("plus", "x", "x")), ("end", "x")), ()), ""), ("ended", 0, 0))

    def test_leaves(self):
        block = (
            ("loop", (
                ("loop", (("toss", (("if", 1, (("leave",),), ()),), ()), ("set", "x", ("plus", "x", 1)))),
                ("toss", (("leave",), ("end", 8)), (("set", "x", 5),)),
            )),
            ("end", "x"),
        )
        self.check((block, ()))
        self.assertEqual(run_program((block, ()), "TTHH"), ("ended", 2, 4))
        self.assertEqual(run_program((block, ()), "THTHH"), ("ended", 5, 5))
        self.assertEqual(self.check(LEAVES)[0], ("going", 0))

    def test_defs_that_end_or_toss_within_calls(self):
        program = (
            (("call", "a"), ("end", 3)),
            (("a", (("call", "b"), ("call", "b"), ("toss", (("call", "b"),), ()))),
             ("b", (("loop", (("toss", (("leave",),), (("call", "c"),)),)), ("set", "n", ("plus", "n", 1)))),
             ("c", (("if", ("alike", "n", 1), (("end", 7),), ()),))),
        )
        self.check(program)
        self.assertEqual(run_program(program, "HHT"), ("ended", 3, 3))
        self.assertEqual(run_program(program, "TTHT"), ("ended", 7, 4))

    def test_random(self):
        generator = make_generator(911)
        words = set()
        for _ in range(250):
            program = random_program(generator)
            words |= {result[0] for result in self.check(program)}
            self.check(program, [random_tape(generator, 30) for _ in range(3)])
        self.assertEqual(words, {"ended", "never", "going"})

    def test_long_tape(self):
        program = ((("loop", (("toss", (("set", "x", ("plus", "x", 1)),), (("set", "x", 0),)), ("if", ("alike", "x", 9), (("leave",),), ()))), ("end", "x")), ())
        self.assertEqual(run_program(program, "HHT" * 1000 + "H" * 20), ("ended", 9, 3009))


class Never(unittest.TestCase):

    def check(self, block, due, defs=(), tape="HTH"):
        self.assertIsNone(program_error((block, defs)))
        self.assertEqual(outcome(run_program, (block, defs), tape), due)
        self.assertEqual(outcome(plain_run_program, (block, defs), tape), due)

    def test_loops(self):
        for block in (
            (("loop", ()),), (SPIN,), (("loop", (("loop", (("leave",),)),)),), (("loop", (("call", "d"),)),),
            (("loop", (("if", 0, (TOSS,), ()),)),), (("loop", (("if", 1, (), (TOSS,)),)),),
            (("loop", (("set", "x", ("plus", "x", 1)),)),), (("loop", (("set", "x", ("less", 1, "x")),)),),
            (("loop", (("loop", (("if", "x", (("leave",),), (("set", "x", 1),)),)), ("set", "x", 0))),),
        ):
            self.check(block, ("never", 0), (("d", ()),))
            self.check((TOSS, *block), ("never", 1), (("d", ()),))
            self.check((("toss", (TOSS, *block), ()), ("end", 3)), ("never", 2), (("d", ()),))
            self.check((("toss", (), block), ("end", 3)), ("ended", 3, 1), (("d", ()),))

    def test_a_toss_in_between(self):
        for block in ((("loop", (TOSS,)),), (("loop", (SET, ("toss", (), (SET,)))),), (("loop", (("call", "d"),)),)):
            self.check(block, ("going", 3), (("d", (TOSS,)),))

    def test_the_same_statement_in_another_position(self):
        # Called from two places, and with another value of a variable.
        self.check((("call", "d"), ("call", "d"), ("end", 2)), ("ended", 2, 0), (("d", (SET,)),))
        count = ("loop", (("set", "x", ("plus", "x", 1)), ("if", ("alike", "x", 9), (("end", 4),), ())))
        self.check((count,), ("ended", 4, 0))
        # A variable that is never read is part of the position, too.
        block = (("loop", (("set", "y", ("plus", "y", 1)), ("if", ("alike", "y", 3), (("end", 6),), ()))),)
        self.check(block, ("ended", 6, 0))


class Steps300(unittest.TestCase):

    def check(self, block, due, defs=(), tape=""):
        self.assertIsNone(program_error((block, defs)), block)
        result = outcome(run_program, (block, defs), tape)
        self.assertEqual(result, due)
        self.assertEqual(outcome(plain_run_program, (block, defs), tape), due)

    def test_exactly(self):
        over = ("steps", 300)
        for steps in (1, 20, 21, 22, 290, 298, 299, 300):
            left = 300 - steps
            # The end of the main block is no statement; "end" is one.
            self.check(straight_line(steps), ("ended", 0, 0))
            self.check(straight_line(steps, (("end", 4),)), ("ended", 4, 0) if left >= 1 else over)
            self.check(straight_line(steps, (SET, ("end", "x"))), ("ended", 1, 0) if left >= 2 else over)
            self.check(straight_line(steps, (("if", 0, (), (SET,)),)), ("ended", 0, 0) if left >= 2 else over)
            self.check(straight_line(steps, (("loop", (("leave",),)),)), ("ended", 0, 0) if left >= 2 else over)
            self.check(straight_line(steps, (("call", "d"),)), ("ended", 0, 0) if left >= 1 else over, (("d", ()),))
            self.check(straight_line(steps, (("call", "d"),)), ("ended", 0, 0) if left >= 2 else over, (("d", (SET,)),))

    def test_a_toss_is_no_step(self):
        for steps in (299, 300):
            block = straight_line(steps, (TOSS,))
            self.check(block, ("going", 0))
            self.check(block, ("ended", 0, 1), tape="H")
            self.check((TOSS, *straight_line(steps)), ("ended", 0, 1), tape="T")
            # The count begins anew behind each toss.
            twice = (("call", "d"), ("call", "d"), ("end", 1))
            defs = (("d", straight_line(steps - 1, (TOSS,))),)
            self.check(twice, ("ended", 1, 2), defs, "HT")
        self.check((("call", "d"),), ("steps", 300), (("d", straight_line(300, (TOSS,))),))

    def test_tape_that_runs_out_before(self):
        block = (TOSS, *straight_line(300, (SET,)))
        self.check(block, ("going", 0))
        self.check(block, ("steps", 300), tape="H")
        self.check((("toss", block, (("end", 2),)),), ("ended", 2, 1), tape="T")
        self.check((("toss", block, (("end", 2),)),), ("going", 1), tape="H")
        self.check((("toss", block, (("end", 2),)),), ("steps", 300), tape="HT")

    def test_rounds(self):
        # A round is a step, also one that begins at a toss or at an inner loop.
        over = ("steps", 300)
        for steps in range(294, 301):
            left = 300 - steps
            # Before the toss of the second round: the loop, a statement, and the second round.
            loop = ("loop", (("if", "z", (("set", "z", 0),), (TOSS,)),))
            self.check(straight_line(steps, (loop,)), ("going", 0) if left >= 5 else over)
            loop = ("loop", (("toss", (), ()),))
            self.check(straight_line(steps, (loop,)), ("going", 0) if left >= 1 else over)
            self.check((loop,), ("going", 5), tape="HTHTH")
            inner = ("loop", (("loop", (("if", "z", (("set", "z", 0), ("leave",)), (TOSS,)),)),))
            self.check(straight_line(steps, (inner,)), ("going", 0) if left >= 8 else over)

    def test_round_that_begins_at_a_toss(self):
        # The toss, so many statements, and the round that begins with the toss again.
        for steps in (297, 298, 299, 300):
            block = (("loop", (TOSS, *straight_line(steps))),)
            self.check(block, ("going", 0))
            self.check(block, ("going", 1) if steps < 300 else ("steps", 300), tape="H")

    def test_never_before_the_limit(self):
        # A position is looked at ahead of its step, also ahead of that of the round that begins with it.
        for steps in range(290, 301):
            left = 300 - steps
            over = ("steps", 300)
            self.check(straight_line(steps, (("loop", ()),)), ("never", 0) if left >= 1 else over)
            # The loop, the statement; the next round's statement again, ahead of the round's step.
            self.check(straight_line(steps, (SPIN,)), ("never", 0) if left >= 2 else over)
            loop = ("loop", (SET, ("set", "y", 1)))
            # Once more, as x and y are not yet 1 in the first round.
            self.check(straight_line(steps, (loop,)), ("never", 0) if left >= 6 else over)
            loop = ("loop", (("if", 1, (), ()),))
            self.check(straight_line(steps, (loop,)), ("never", 0) if left >= 2 else over)
            loop = ("loop", (("loop", (("leave",),)),))
            self.check(straight_line(steps, (loop,)), ("never", 0) if left >= 3 else over)

    def test_counting(self):
        generator = make_generator(912)
        words = set()
        for k in range(120):
            program = counting_program(generator, generator.randint(0, 15), ("x", "y", "z")[:1 + k % 3])
            self.assertIsNone(program_error(program))
            for tape in all_tapes(2):
                result = outcome(run_program, program, tape)
                self.assertEqual(result, outcome(plain_run_program, program, tape), program)
                words.add(result[0])
        self.assertEqual(words, {"ended", "never", "going", "steps"})


class Compiled(unittest.TestCase):

    def check(self, program, tapes=TAPES):
        """Check the machine by run_program, or that an error is due; return the machine or the word."""
        word, positions = first_limit(program)
        if word is not None:
            error = LimitExceeded if word == "states" else StepLimitExceeded
            with self.assertRaises(error) as held:
                compile_program(program)
            self.assertEqual(held.exception.limit, 48 if word == "states" else 300)
            return word
        machine = compile_program(program)
        self.assertIsNone(machine_error(machine))
        self.assertLessEqual(sum(state[0] == "toss" for state in machine), positions)
        self.assertEqual(machine, compile_program(program=program))
        for tape in tapes:
            due = run_program(program, tape)
            result = run_machine(machine, tape)
            self.assertEqual(result if result[0] != "going" else due, due, (program, tape))
            self.assertEqual(result[0], due[0])
        return machine

    def test_example(self):
        machine = compile_program(TOSS_ONCE)
        self.assertEqual(run_machine(machine, "TTH"), ("ended", 1, 3))
        self.assertEqual(self.check(TOSS_ONCE), machine)

    def test_programs(self):
        for program in PROGRAMS:
            self.check(program)

    def test_random(self):
        generator = make_generator(913)
        words = set()
        for _ in range(250):
            result = self.check(random_program(generator), all_tapes(5))
            words.add(result if isinstance(result, str) else "machine")
        self.assertIn("machine", words)

    def test_fair(self):
        self.assertEqual(answer_probability(compile_program(FAIR_PROGRAM), 1)[0], ((1,), (2,)))

    def test_all_ends(self):
        # 48 positions at a toss, all ten answers and "never".
        ends = (("loop", ()),)
        for answer in range(10):
            ends = (("if", ("alike", "x", answer), (("end", answer),), ()), *ends)
        block = (("loop", (("toss", (("call", "e"),), (("set", "x", ("plus", "x", 1)),)),)),)
        machine = self.check((block, (("e", ends),)))
        self.assertEqual(sum(state[0] == "toss" for state in machine), 10)
        self.assertEqual({state for state in machine if state[0] == "end"}, {("end", k) for k in range(10)})

    def test_positions(self):
        for program, count in (
            (SAME_BUT_CALL, 3), (UNREAD, 3), (FAIR_PROGRAM, 3), (TOSS_ONCE, 1), (((), ()), 0), (NEVER_AT_ONCE, 0),
        ):
            self.assertEqual(first_limit(program), (None, count))
            self.check(program)
        self.assertEqual(first_limit(EMPTY_BLOCKS), (None, 2))

    def grid(self, tosses, more=()):
        """Return a program with so many positions at a toss, one after the other; then the block more."""
        block = ()
        full, rest = divmod(tosses, 10)
        count = ("set", "x", ("plus", "x", 1))
        if full:
            row = (TOSS, ("if", ("alike", "y", 9), (("leave",),), ()), ("set", "y", ("plus", "y", 1)))
            outer = (("loop", row), ("set", "y", 0), count, ("if", ("alike", "x", full), (("leave",),), ()))
            block = (("loop", outer), ("set", "x", 0))
        return (block + (TOSS,) * rest + more, ())

    def test_forty_eight_positions(self):
        for tosses in (0, 9, 10, 47, 48):
            program = self.grid(tosses)
            self.assertEqual(first_limit(program), (None, tosses))
            machine = self.check(program, ["", "H" * 50, "T" * 47, "HT" * 24, "H" * 48, "T" * 49])
            self.assertEqual(run_machine(machine, "H" * 60), ("ended", 0, tosses))
        for tosses in (49, 50, 59):
            self.assertEqual(self.check(self.grid(tosses)), "states")

    def test_forty_eight_positions_and_all_ends(self):
        ends = tuple(("toss", (("end", k),), ()) for k in range(10))
        program = (self.grid(38)[0] + ends, ())
        self.assertEqual(len(self.check(program)), 48 + 10)
        program = (self.grid(37)[0] + ends + (("toss", (("loop", ()),), ()),), ())
        self.assertEqual(len(self.check(program)), 48 + 11)
        # Ends that are found before do not count.
        self.assertEqual(self.check((ends + self.grid(39)[0], ())), "states")
        self.assertEqual(len(self.check((ends + self.grid(38)[0], ()))), 48 + 10)

    def test_step_limit_that_a_tape_reaches(self):
        # The steps are in a def, so that they can be many.
        over = straight_line(300)
        for block, word in (
            ((("call", "d"),), "steps"), ((("toss", (("call", "d"),), ()),), "steps"),
            ((TOSS, TOSS, ("toss", (), (("toss", (), (("call", "d"),)),))), "steps"),
            # No tape reaches it.
            ((("if", 0, (("call", "d"),), ()),), None), ((("end", 1), ("call", "d")), None),
            ((("loop", ()), ("call", "d")), None), ((("loop", (TOSS,)), ("call", "d")), None),
        ):
            result = self.check((block, (("d", over),)))
            self.assertEqual(result if isinstance(result, str) else None, word)

    def test_which_limit_is_met_first(self):
        over = (("call", "d"),)
        defs = (("d", straight_line(300)),)
        row = [TOSS] * 15
        many = self.grid(60)[0]
        for block, word in (
            # More than 300 steps behind tapes that are shorter, and longer, than those to 49 positions.
            ((TOSS, *over, *many), "steps"), ((("toss", many, over),), "steps"), ((("toss", over, many),), "steps"),
            ((*many, *over), "states"), (self.grid(47)[0] + over, "steps"), (self.grid(48)[0] + over, "steps"),
            (self.grid(49)[0] + over, "states"), ((*row, *over), "steps"),
        ):
            self.assertEqual(self.check((block, defs)), word)

    def test_heads_before_tails(self):
        # The 49th position behind heads and too many steps behind tails of one toss, and the other way.
        over = (("call", "d"),)
        defs = (("d", straight_line(300)),)
        for tosses in (46, 47, 48):
            more = (TOSS,)
            block, _ = self.grid(tosses - 1)
            for last, word in (
                (("toss", more * 2, over), "states" if tosses == 48 else "steps"),
                (("toss", over, more * 2), "steps"),
                (("toss", over, over), "steps"),
                (("toss", more, (TOSS, *over)), "states" if tosses == 48 else "steps" if tosses < 47 else "states"),
            ):
                program = (block + (last,), defs)
                self.assertEqual(self.check(program), word, (tosses, last))

    def test_counting(self):
        generator = make_generator(914)
        words = set()
        for k in range(60):
            result = self.check(counting_program(generator, generator.randint(0, 9), ("x", "y", "z")[:1 + k % 3]), all_tapes(3))
            words.add(result if isinstance(result, str) else "machine")
        self.assertEqual(words, {"machine", "steps"})


if __name__ == "__main__":
    unittest.main()
