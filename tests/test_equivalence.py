"""Promise 13: machines equal in probability, or separated."""

import unittest
from math import gcd

from bentcoin.checker import check_claim
from bentcoin.equivalence import compare_machines
from bentcoin.errors import LimitExceeded
from bentcoin.rationals import evaluate_rational
from tests.helpers import make_generator
from tests.machine_helpers import (
    COIN, ENDED, HALF_TRAP, LOOP, MACHINES, NEVER, TWICE, UNREACHED, make_chain, make_decision,
    plain_chance, random_machine, renumber,
)
from tests.plain_checker import plain_check

SWAPPED = (("toss", 2, 1), ("end", 1), ("end", 0))


def plain_compare(one, other):
    """Return ("alike",) or ("parted", p, answer), by the words of promise 13."""
    answers = sorted({state[1] for state in one + other if state[0] == "end"})
    for answer in answers:
        first, second = plain_chance(one, answer)[0], plain_chance(other, answer)[0]
        if first != second:
            d = 2
            while True:
                for n in range(1, d):
                    p = (n, d)
                    if gcd(n, d) == 1 and evaluate_rational(first, p) != evaluate_rational(second, p):
                        return ("parted", p, answer)
                d += 1
    return ("alike",)


def add_state(machine, generator):
    """Return the machine with a state more, of any kind, that is not reachable."""
    size = len(machine) + 1
    return (*machine, ("toss", generator.randrange(size), generator.randrange(size)))


def change_state(machine, generator):
    """Return the machine with one state changed."""
    states = list(machine)
    at = generator.randrange(len(states))
    states[at] = random_machine(generator, len(states))[at]
    return tuple(states)


class Comparison(unittest.TestCase):

    def check(self, one, other):
        result = compare_machines(one, other)
        self.assertEqual(result[:-1], plain_compare(one, other))
        claim = (result[0], one, other, *result[1:-1])
        self.assertTrue(check_claim(claim, result[-1]))
        self.assertTrue(plain_check(claim, result[-1]))
        self.assertEqual(result, compare_machines(other=other, one=one))
        return result

    def test_example(self):
        self.assertEqual(compare_machines(COIN, SWAPPED), (
            "parted", (1, 3), 0, ("worths", ((2, 3), (0, 1), (1, 1)), ((1, 3), (0, 1), (1, 1))),
        ))

    def test_itself(self):
        for machine in MACHINES:
            self.assertEqual(self.check(machine, machine)[0], "alike")

    def test_renumbered(self):
        generator = make_generator(321)
        for machine in MACHINES:
            for _ in range(3):
                order = list(range(1, len(machine)))
                generator.shuffle(order)
                other = renumber(machine, (0, *order))
                self.assertEqual(self.check(machine, other)[0], "alike")

    def test_one_state_changed(self):
        generator = make_generator(322)
        words = set()
        for machine in MACHINES * 4:
            words.add(self.check(machine, change_state(machine, generator))[0])
        self.assertEqual(words, {"alike", "parted"})

    def test_unreachable_state_added(self):
        generator = make_generator(323)
        for machine in MACHINES:
            self.assertEqual(self.check(machine, add_state(machine, generator))[0], "alike")

    def test_pairs(self):
        for one in MACHINES:
            for other in MACHINES:
                self.check(one, other)

    def test_random(self):
        generator = make_generator(324)
        for _ in range(60):
            self.check(*[random_machine(generator, generator.randint(1, 7), 2) for _ in range(2)])

    def test_without_answers(self):
        self.assertEqual(compare_machines(NEVER, LOOP), ("alike", ("tables", ())))

    def test_unreachable_answers(self):
        more = (*COIN, ("end", 6))
        result = self.check(COIN, more)
        self.assertEqual([row[0] for row in result[1][1]], [0, 1, 6])

    def test_answer_that_only_one_has(self):
        self.assertEqual(self.check(ENDED, NEVER)[:3], ("parted", (1, 2), 7))
        self.assertEqual(self.check(COIN, HALF_TRAP)[:3], ("parted", (1, 2), 0))
        self.assertEqual(self.check(UNREACHED, TWICE)[:3], ("parted", (1, 2), 4))

    def test_smallest_answer(self):
        one = (("toss", 1, 2), ("end", 5), ("end", 9))
        other = (("toss", 2, 1), ("end", 5), ("end", 9))
        self.assertEqual(self.check(one, other)[:3], ("parted", (1, 3), 5))
        ends = (("end", 0), ("end", 3), ("end", 99))
        one, other = (("toss", 1, 3), ("toss", 2, 4), *ends), (("toss", 1, 3), ("toss", 2, 3), *ends)
        self.assertEqual(self.check(one, other)[2], 3)

    def test_agreement_at_the_first_fractions(self):
        for one, other, p in (
            ((1, 0), (0, 1), (1, 3)), ((1, 0), (1, 1), (1, 2)),
            # The difference is t^3 (1 - 3 x + 2 x^2), x = h / t: equal at 1/2 and 1/3.
            ((0, 1, 1, 0, 0, 0, 0, 1), (0, 0, 0, 1, 0, 1, 1, 0), (2, 3)),
            # Equal at 1/2 and 2/3.
            ((1, 0, 0, 1, 0, 1, 0, 0), (0, 1, 1, 0, 1, 0, 0, 0), (1, 3)),
            # Equal at 1/2, 1/3 and 2/3.
            ((0, 1, 1, 0, 0, 0, 0, 1, 0, 0, 0, 1, 0, 1, 1, 0, 0, 0, 0, 1, 0, 1, 1, 0, 0, 0, 0, 0, 0, 0, 0, 0),
             (0, 0, 0, 1, 0, 1, 1, 0, 0, 1, 1, 0, 0, 0, 0, 1, 0, 1, 1, 0, 0, 0, 0, 1, 0, 0, 0, 0, 0, 0, 0, 0),
             (1, 4)),
        ):
            one, other = make_decision(one), make_decision(other)
            self.assertEqual(self.check(one, other)[:3], ("parted", p, 0))

    def test_limit_of_one_then_other(self):
        large, small = make_chain(14), COIN
        for one, other in ((large, small), (small, large), (large, large), (large, LOOP)):
            with self.assertRaises(LimitExceeded) as held:
                compare_machines(one, other)
            self.assertEqual(held.exception.limit, 12)
        hidden = (("end", 1), *[("toss", 0, 0)] * 13)
        self.assertRaises(LimitExceeded, compare_machines, hidden, hidden)
        self.assertEqual(self.check(make_chain(13), (("end", 3),))[0], "alike")

    def test_many_answers(self):
        ends = [("end", k) for k in range(40)]
        tosses = [("toss", k + 1, k + 12) for k in range(12)]
        machine = (*tosses, *ends)
        self.assertEqual(compare_machines(machine, machine)[0], "alike")
        other = (*tosses[:-1], ("toss", 23, 12), *ends)
        result = compare_machines(machine, other)
        self.assertTrue(check_claim(("parted", machine, other, *result[1:3]), result[3]))


if __name__ == "__main__":
    unittest.main()
