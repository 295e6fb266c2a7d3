"""Promises 9 and 10: machines, their ends, and runs on tapes."""

import unittest
from copy import deepcopy
from itertools import product

from bentcoin.checker import check_claim
from bentcoin.machines import (
    check_termination, count_tapes, end_distances, machine_error, reachable_states, run_machine,
)
from tests.changes import ANY, list_changes
from tests.helpers import make_generator, nest
from tests.machine_helpers import (
    COIN, CYCLE_TRAP, ENDED, FAIR, HALF_TRAP, LOOP, MACHINES, MIXED, NEVER, UNREACHED, make_chain,
    plain_distance, plain_reachable, plain_run, random_machine, random_tape, surely_ends,
)

END = ("end", 3)


def some_machines(number, count=40):
    """Return the named machines, and random ones."""
    generator = make_generator(number)
    return [*MACHINES, *[random_machine(generator, generator.randint(1, 9)) for _ in range(count)]]


class Errors(unittest.TestCase):

    def test_example(self):
        self.assertEqual(machine_error((("toss", 0, 2), ("end", 1))), (0, "place"))

    def test_machines(self):
        for machine in some_machines(201):
            self.assertIsNone(machine_error(machine))
        self.assertIsNone(machine_error(value=COIN))

    def test_sizes(self):
        for size in (1, 2, 59, 60):
            self.assertIsNone(machine_error((END,) * size))
            self.assertIsNone(machine_error(make_chain(size)))
        for size in (0, 61, 10000):
            self.assertEqual(machine_error((END,) * size), (-1, "form"))

    def test_no_tuple(self):
        for value in (None, True, 0, -1, "toss", "", [], [END], {0: END}, {}, ("end", 3)[0]):
            self.assertEqual(machine_error(value), (-1, "form"))

    def check_state(self, state, word):
        """Check the error of a state at each place among three."""
        for at in range(3):
            machine = [END, END, END]
            machine[at] = state
            due = None if word is None else (at, word)
            self.assertEqual(machine_error(tuple(machine)), due, state)

    def test_states(self):
        for state in (("toss", 0, 0), ("toss", 2, 1), ("end", 0), ("end", 99), ("never",)):
            self.check_state(state, None)

    def test_place(self):
        for state in (
            ("toss", 0, 3), ("toss", 3, 0), ("toss", -1, 0), ("toss", 0, -1), ("toss", 10 ** 59, 0),
            ("toss", 7, 8), ("toss", -3, 3),
        ):
            self.check_state(state, "place")

    def test_answer(self):
        for state in (("end", 100), ("end", -1), ("end", 10 ** 59), ("end", -99)):
            self.check_state(state, "answer")

    def test_form(self):
        for state in (
            *[value for value in ANY if value != END], ("toss",), ("toss", 0), ("toss", 0, 0, 0), ("end",),
            ("end", 0, 0), ("never", 0), ("never", None), ["toss", 0, 0], ["end", 0], ["never"],
            ("toss", True, 0), ("toss", 0, False), ("end", True), ("end", False), ("toss", None, 0),
            ("toss", 0, "1"), ("toss", (0,), 0), ("end", "1"), ("end", None), ("end", (1,)), ("END", 1),
            ("Toss", 0, 0), ("heads", 0, 0), (0, 1, 2), (("end",), 1), ("toss", 9, True), ("never",) * 2,
            {"toss": 0}, "end", ("end", [1]), ("toss", [0], 0), (["never"],),
        ):
            self.check_state(state, "form")

    def test_first_invalid_state_wins(self):
        wrong = {"form": ("end",), "place": ("toss", 0, 9), "answer": ("end", 100)}
        for one, other in product(wrong, wrong):
            machine = (END, wrong[one], wrong[other], END)
            self.assertEqual(machine_error(machine), (1, one))

    def test_changed_at_one_place(self):
        for machine in (COIN, HALF_TRAP):
            for changed in list_changes(machine):
                self.assertEqual(machine_error(changed), plain_error(changed), changed)

    def test_deep_values(self):
        self.assertEqual(machine_error(nest(COIN, 25)), (-1, "form"))
        self.assertEqual(machine_error((END, nest("x", 24))), (1, "form"))
        self.assertEqual(machine_error((END, ("end", nest(0, 23)))), (1, "form"))


def plain_error(value):
    """Return the error of a value by the words of the interface."""
    if type(value) is not tuple or not 1 <= len(value) <= 60:
        return (-1, "form")
    for k, state in enumerate(value):
        shape = (state[0], *map(type, state[1:])) if type(state) is tuple and state else None
        if shape not in (("toss", int, int), ("end", int), ("never",)):
            return (k, "form")
        if state[0] == "toss" and not all(0 <= x < len(value) for x in state[1:]):
            return (k, "place")
        if state[0] == "end" and not 0 <= state[1] <= 99:
            return (k, "answer")
    return None


class Reachable(unittest.TestCase):

    def test_examples(self):
        self.assertEqual(reachable_states((("toss", 0, 2), ("end", 1), ("end", 0))), (0, 2))
        self.assertEqual(end_distances(FAIR), (2, 1, 1, 0, 0))
        self.assertEqual(check_termination(FAIR)[0], "ends")

    def test_reachable_states(self):
        for machine in some_machines(202):
            self.assertEqual(reachable_states(machine), tuple(sorted(plain_reachable(machine))))

    def test_end_distances(self):
        for machine in some_machines(203):
            due = tuple(plain_distance(machine, k) for k in range(len(machine)))
            self.assertEqual(end_distances(machine), due)

    def test_named(self):
        self.assertEqual(end_distances(NEVER), (None,))
        self.assertEqual(end_distances(LOOP), (None,))
        self.assertEqual(end_distances(UNREACHED), (2, 1, 0, 1, None, 0))
        self.assertEqual(reachable_states(UNREACHED), (0, 1, 2))
        self.assertEqual(end_distances(CYCLE_TRAP), (1, 0, None, None, None))

    def test_chain_of_sixty(self):
        chain = make_chain(60)
        self.assertEqual(reachable_states(chain), tuple(range(60)))
        self.assertEqual(end_distances(chain), tuple(range(59, -1, -1)))
        self.assertEqual(check_termination(chain), ("ends", tuple(range(59, -1, -1))))
        self.assertEqual(run_machine(chain, "H" * 59), ("ended", 3, 59))
        self.assertEqual(run_machine(chain, "T" * 58), ("going", 58))
        trapped = (*chain[:-1], ("never",))
        self.assertEqual(end_distances(trapped), (None,) * 60)
        self.assertTrue(check_claim(("trapped", trapped), check_termination(trapped)))

    def test_termination(self):
        for machine in some_machines(204, 120):
            result = check_termination(machine)
            if surely_ends(machine):
                self.assertEqual(result[0], "ends")
                self.assertTrue(check_claim(("ends", machine), ("ranks", result[1])))
            else:
                self.assertEqual(result[0], "trap")
                self.assertTrue(check_claim(("trapped", machine), result))
                self.assertEqual(len(result), 3)

    def test_by_name(self):
        self.assertEqual(reachable_states(machine=COIN), (0, 1, 2))
        self.assertEqual(end_distances(machine=COIN), (1, 0, 0))
        self.assertEqual(check_termination(machine=COIN), ("ends", (1, 0, 0)))


class Runs(unittest.TestCase):

    def test_example(self):
        self.assertEqual(run_machine(FAIR, "HHHT"), ("ended", 1, 4))
        self.assertEqual(run_machine(tape="HHHT", machine=FAIR), ("ended", 1, 4))

    def test_all_short_tapes(self):
        for machine in some_machines(205):
            for length in range(6):
                for sides in product("HT", repeat=length):
                    tape = "".join(sides)
                    self.assertEqual(run_machine(machine, tape), plain_run(machine, tape))

    def test_long_tapes(self):
        generator = make_generator(206)
        for machine in some_machines(207):
            tape = random_tape(generator, 200)
            self.assertEqual(run_machine(machine, tape), plain_run(machine, tape))
        self.assertEqual(run_machine(FAIR, "H" * 200), ("going", 0))
        self.assertEqual(run_machine(LOOP, "HT" * 100), ("going", 0))

    def test_after_the_end(self):
        self.assertEqual(run_machine(COIN, "H" + "T" * 199), ("ended", 1, 1))
        self.assertEqual(run_machine(ENDED, "HTH"), ("ended", 7, 0))
        self.assertEqual(run_machine(ENDED, ""), ("ended", 7, 0))
        self.assertEqual(run_machine(NEVER, "HTH"), ("never", 0))
        self.assertEqual(run_machine(NEVER, ""), ("never", 0))
        self.assertEqual(run_machine(HALF_TRAP, "THH"), ("never", 1))
        self.assertEqual(run_machine(COIN, ""), ("going", 0))


class Counts(unittest.TestCase):

    def plain_counts(self, machine, length):
        """Count by running all tapes of the length, and all shorter ones."""
        stopped, going = {}, {}
        for used in range(length + 1):
            for sides in product("HT", repeat=used):
                result = plain_run(machine, "".join(sides))
                heads = sides.count("H")
                if result[0] == "going":
                    if used == length:
                        row = going.setdefault(result[1], [0] * (length + 1))
                        row[heads] += 1
                elif result[-1] == used:
                    answer = -1 if result[0] == "never" else result[1]
                    empty = [[0] * (j + 1) for j in range(length + 1)]
                    stopped.setdefault(answer, empty)[used][heads] += 1
        rows = {answer: tuple(map(tuple, rows)) for answer, rows in stopped.items()}
        return rows, {state: tuple(row) for state, row in going.items()}

    def test_example(self):
        self.assertEqual(count_tapes(COIN, 1)[0][1], ((0,), (0, 1)))

    def test_empty_tape(self):
        self.assertEqual(count_tapes(COIN, 0), ({}, {0: (1,)}))
        self.assertEqual(count_tapes(ENDED, 0), ({7: ((1,),)}, {}))
        self.assertEqual(count_tapes(NEVER, 1), ({-1: ((1,), (0, 0))}, {}))

    def test_lengths(self):
        for length in range(13):
            for machine in (COIN, FAIR, MIXED, HALF_TRAP):
                self.assertEqual(count_tapes(machine, length), self.plain_counts(machine, length))

    def test_random(self):
        for machine in some_machines(208):
            for length in (0, 1, 2, 5):
                result = count_tapes(machine, length)
                self.assertEqual(result, self.plain_counts(machine, length))
                self.assertIs(type(result), tuple)

    def test_kinds(self):
        stopped, going = count_tapes(machine=MIXED, length=4)
        self.assertIs(type(stopped), dict)
        self.assertIs(type(going), dict)
        self.assertTrue(all(type(row) is tuple for row in going.values()))
        self.assertTrue(all(type(row) is tuple for rows in stopped.values() for row in rows))

    def test_changed_result(self):
        first = count_tapes(MIXED, 3)
        kept = deepcopy(first)
        first[0].clear()
        first[1][0] = ()
        self.assertEqual(count_tapes(MIXED, 3), kept)

    def test_sixty_states(self):
        generator = make_generator(209)
        states = [("toss", generator.randrange(60), generator.randrange(60)) for _ in range(59)]
        stopped, going = count_tapes((*states, ("end", 2)), 12)
        total = sum(sum(row) << (12 - j) for rows in stopped.values() for j, row in enumerate(rows))
        self.assertEqual(total + sum(map(sum, going.values())), 2 ** 12)


if __name__ == "__main__":
    unittest.main()
