"""Promise 11: the runner."""

import unittest

from bentcoin.errors import AlreadyEnded, InvalidSide, UnknownCheckpoint
from bentcoin.runner import Runner
from tests.changes import ANY
from tests.helpers import make_generator, nest
from tests.machine_helpers import COIN, ENDED, FAIR, HALF_TRAP, MACHINES, NEVER, plain_run, random_machine


def plain_position(machine, tape):
    result = plain_run(machine, tape)
    return {"ended": result[:2], "never": ("never",), "going": result}[result[0]]


class Examples(unittest.TestCase):

    def test_toss(self):
        runner = Runner(FAIR)
        first = runner.toss("H")
        second = runner.toss("T")
        self.assertEqual(
            (first, second, runner.tape(), len(runner)), (("going", 1), ("ended", 1), "HT", 2),
        )
        with self.assertRaises(AlreadyEnded) as held:
            Runner((("end", 7),)).toss("H")
        self.assertEqual(held.exception.tosses, 0)

    def test_checkpoint(self):
        runner = Runner(FAIR)
        runner.toss("T")
        self.assertEqual(runner.checkpoint(), 1)

    def test_rewind(self):
        runner = Runner(FAIR)
        runner.toss("H")
        runner.toss("T")
        self.assertIsNone(runner.rewind(1))
        self.assertEqual(runner.position(), ("going", 1))
        self.assertEqual((runner.tape(), len(runner), runner.checkpoint()), ("H", 1, 1))

    def test_by_name(self):
        runner = Runner(machine=FAIR)
        self.assertEqual(runner.toss(side="H"), ("going", 1))
        self.assertIsNone(runner.rewind(number=0))
        self.assertEqual(runner.tape(), "")

    def test_start(self):
        for machine, position in (
            (FAIR, ("going", 0)), (ENDED, ("ended", 7)), (NEVER, ("never",)), ((("end", 0),), ("ended", 0)),
        ):
            runner = Runner(machine)
            self.assertEqual(runner.position(), position)
            self.assertEqual((runner.tape(), runner.checkpoint(), len(runner)), ("", 0, 0))


class Drawn(unittest.TestCase):

    def check_state(self, runner, machine, tape):
        self.assertEqual(runner.position(), plain_position(machine, tape))
        self.assertEqual(runner.tape(), tape)
        self.assertEqual(runner.checkpoint(), len(tape))
        self.assertEqual(len(runner), len(tape))

    def do_toss(self, runner, machine, tape, side):
        """Toss, or see the error that is due, and return the new tape."""
        if plain_position(machine, tape)[0] != "going":
            with self.assertRaises(AlreadyEnded) as held:
                runner.toss(side)
            self.assertEqual(held.exception.tosses, len(tape))
            return tape
        if side not in ("H", "T"):
            self.assertRaises(InvalidSide, runner.toss, side)
            return tape
        self.assertEqual(runner.toss(side), plain_position(machine, tape + side))
        return tape + side

    def do_rewind(self, runner, tape, number):
        if not 0 <= number <= len(tape):
            with self.assertRaises(UnknownCheckpoint) as held:
                runner.rewind(number)
            self.assertEqual(held.exception.number, number)
            return tape
        self.assertIsNone(runner.rewind(number))
        return tape[:number]

    def test_operations(self):
        generator = make_generator(301)
        machines = [*MACHINES, *[random_machine(generator, generator.randint(2, 9)) for _ in range(30)]]
        for machine in machines:
            runner, tape = Runner(machine), ""
            for _ in range(60):
                if generator.random() < 0.75:
                    side = generator.choice(("H", "T", "H", "T", "X", "HT", ""))
                    tape = self.do_toss(runner, machine, tape, side)
                else:
                    tape = self.do_rewind(runner, tape, generator.randint(-2, len(tape) + 2))
                self.check_state(runner, machine, tape)

    def test_two_runners_of_one_machine(self):
        one, other = Runner(FAIR), Runner(FAIR)
        one.toss("H")
        self.check_state(one, FAIR, "H")
        self.check_state(other, FAIR, "")
        other.toss("T")
        other.toss("H")
        one.rewind(0)
        self.check_state(one, FAIR, "")
        self.check_state(other, FAIR, "TH")

    def test_long(self):
        runner = Runner(FAIR)
        for _ in range(2000):
            runner.toss("H")
        self.check_state(runner, FAIR, "H" * 2000)
        runner.rewind(1001)
        self.check_state(runner, FAIR, "H" * 1001)


class Errors(unittest.TestCase):

    def test_sides_of_any_value(self):
        runner = Runner(FAIR)
        runner.toss("H")
        for side in (*ANY, "h", "t", "HH", "heads", b"H", ["H"], ("H",), {"H": 1}, nest("H", 25)):
            if side not in ("H", "T"):
                self.assertRaises(InvalidSide, runner.toss, side)
                self.assertEqual((runner.tape(), runner.position(), len(runner)), ("H", ("going", 1), 1))

    def test_ended_comes_before_the_side(self):
        for machine, sides in ((ENDED, ""), (NEVER, ""), (COIN, "H"), (COIN, "T"), (HALF_TRAP, "T"), (FAIR, "HT")):
            runner = Runner(machine)
            for side in sides:
                runner.toss(side)
            for side in (*ANY, "H", "T"):
                with self.assertRaises(AlreadyEnded) as held:
                    runner.toss(side)
                self.assertEqual(held.exception.tosses, len(sides))
                self.assertEqual(runner.tape(), sides)

    def test_unknown_checkpoints(self):
        runner = Runner(FAIR)
        runner.toss("H")
        for number in (-1, -2, 2, 3, 10 ** 59, -(10 ** 59), True, False):
            with self.assertRaises(UnknownCheckpoint) as held:
                runner.rewind(number)
            self.assertIs(held.exception.number, number)
            self.assertEqual((runner.tape(), runner.position()), ("H", ("going", 1)))

    def test_goes_on_after_rewinding_from_an_end(self):
        runner = Runner(COIN)
        runner.toss("H")
        runner.rewind(1)
        self.assertEqual(runner.position(), ("ended", 1))
        runner.rewind(0)
        self.assertEqual(runner.toss("T"), ("ended", 0))


if __name__ == "__main__":
    unittest.main()
