"""Promise 12: probabilities of answers and of running forever, and the expected number of tosses."""

import unittest
from fractions import Fraction

from bentcoin.checker import check_claim
from bentcoin.errors import LimitExceeded, MayNotTerminate
from bentcoin.machines import count_tapes
from bentcoin.probabilities import (
    MAX_TOSS_STATES, answer_probability, expected_tosses, nontermination_probability,
)
from bentcoin.rationals import add_rationals, evaluate_rational, reduce_rational
from bentcoin.signs import analyze_sign
from tests.helpers import make_generator, plain_value
from tests.machine_helpers import (
    COIN, CYCLE_TRAP, ENDED, FAIR, HALF_TRAP, LOOP, MACHINES, MIXED, NEVER, ONE, P, UNREACHED, ZERO,
    make_chain, plain_chance, plain_mean, plain_never, random_machine, surely_ends,
)
from tests.plain_checker import plain_check

VALUES = (ZERO, ONE, P, ((1,), (2,)), ((1, -1), (1,)), ((2,), (1,)), ((1,), (0, 1, -1)))
BRANCHES = (
    ("toss", 1, 4), ("toss", 2, 7), ("toss", 3, 8), ("toss", 0, 9), ("toss", 5, 10), ("toss", 6, 2),
    ("toss", 4, 11), ("toss", 12, 1), ("toss", 13, 14), ("toss", 6, 15), ("toss", 9, 16), ("toss", 17, 10),
    *[("end", k) for k in range(5)], ("never",),
)


def count_toss_states(machine):
    return sum(state[0] == "toss" for state in machine)


def twelve_at_most(number, count, largest=12):
    """Return the named machines and random ones with at most twelve toss states."""
    generator = make_generator(number)
    found = [*MACHINES, BRANCHES]
    while len(found) < count:
        machine = random_machine(generator, generator.randint(1, largest + 5))
        if count_toss_states(machine) <= largest:
            found.append(machine)
    return found


def answers_of(machine):
    return sorted({state[1] for state in machine if state[0] == "end"})


class Chances(unittest.TestCase):

    def check_pair(self, result, claim, kept=2):
        """Check what a function returned for a claim but its rational function."""
        self.assertIs(type(result), tuple)
        rational, certificate = result
        self.assertEqual(reduce_rational(*rational), rational)
        self.assertEqual((certificate[0], len(certificate)), ("table", kept))
        self.assertTrue(check_claim((*claim, rational), certificate))
        self.assertTrue(plain_check((*claim, rational), certificate))
        for other in VALUES:
            self.assertEqual(check_claim((*claim, other), certificate), other == rational)
        return rational, certificate[1]

    def test_limit_of_states(self):
        self.assertEqual(MAX_TOSS_STATES, 12)

    def test_examples(self):
        self.assertEqual(answer_probability(FAIR, 1)[0], ((1,), (2,)))
        half = (("toss", 1, 2), ("end", 1), ("never",))
        self.assertEqual(nontermination_probability(half)[0], ((1, -1), (1,)))
        self.assertEqual(expected_tosses(FAIR)[0], ((1,), (0, 1, -1)))

    def test_answers(self):
        for machine in twelve_at_most(311, 40, 7):
            for answer in (*answers_of(machine)[:2], 57):
                result = answer_probability(machine, answer)
                rational, _ = self.check_pair(result, ("chance", machine, answer))
                self.assertEqual(rational, plain_chance(machine, answer)[0])
                self.assertEqual(result, answer_probability(answer=answer, machine=machine))

    def test_running_forever(self):
        for machine in twelve_at_most(312, 40, 7):
            result = nontermination_probability(machine)
            rational, _ = self.check_pair(result, ("never", machine))
            self.assertEqual(rational, plain_never(machine)[0])
            self.assertEqual(result, nontermination_probability(machine=machine))

    def test_expected_tosses(self):
        seen = 0
        for machine in twelve_at_most(313, 80, 7):
            if surely_ends(machine):
                seen += 1
                result = expected_tosses(machine)
                rational, _ = self.check_pair(result, ("mean", machine), 3)
                self.assertEqual(rational, plain_mean(machine)[0])
                self.assertEqual(result, expected_tosses(machine=machine))
        self.assertGreater(seen, 20)

    def test_answer_that_no_end_has(self):
        for machine in MACHINES:
            for answer in (98, -1):
                self.assertEqual(answer_probability(machine, answer)[0], ZERO)

    def test_minus_one_is_no_answer(self):
        for machine in (NEVER, LOOP, HALF_TRAP, CYCLE_TRAP, MIXED):
            table = answer_probability(machine, -1)[1][1]
            self.assertEqual(set(table), {ZERO})
            self.assertNotEqual(nontermination_probability(machine)[0], ZERO)

    def test_all_probabilities_together(self):
        for machine in twelve_at_most(314, 60):
            total = nontermination_probability(machine)[0]
            for answer in answers_of(machine):
                total = add_rationals(total, answer_probability(machine, answer)[0])
            self.assertEqual(total, ONE)

    def test_denominators(self):
        """No denominator of a certificate is 0 at an interior p."""
        for machine in twelve_at_most(315, 40):
            tables = [nontermination_probability(machine)[1][1]]
            tables.extend(answer_probability(machine, answer)[1][1] for answer in answers_of(machine))
            if surely_ends(machine):
                tables.append(expected_tosses(machine)[1][1])
            for _, lower in {pair for table in tables for pair in table}:
                if len(lower) > 1:
                    at_half = plain_value(lower, (1, 2))
                    positive = tuple(c if at_half > 0 else -c for c in lower)
                    self.assertEqual(analyze_sign(positive)[0], "cover", lower)

    def test_values_against_tapes(self):
        """At a fraction, the probability lies between the tapes that ended and those still going."""
        for machine in twelve_at_most(316, 30):
            stopped, going = count_tapes(machine, 12)
            for p in ((1, 2), (1, 3), (5, 7)):
                left = sum(weigh(row, p) for row in going.values())
                for answer in (*answers_of(machine), -1):
                    if answer == -1:
                        rational = nontermination_probability(machine)[0]
                    else:
                        rational = answer_probability(machine, answer)[0]
                    value = Fraction(*evaluate_rational(rational, p))
                    sure = sum(weigh(row, p) for row in stopped.get(answer, ()))
                    self.assertTrue(sure <= value <= sure + left, (machine, answer, p))

    def test_mean_against_tapes(self):
        """The expected number of tosses is at least the mean of the number cut at a length."""
        for machine in (COIN, FAIR, UNREACHED, make_chain(9)):
            mean = expected_tosses(machine)[0]
            for p in ((1, 2), (1, 3), (5, 7)):
                value = Fraction(*evaluate_rational(mean, p))
                cut = sum(weigh(row, p) for n in range(12) for row in count_tapes(machine, n)[1].values())
                self.assertLessEqual(cut, value)
                if machine in (COIN, make_chain(9)):
                    self.assertEqual(cut, value)


def weigh(row, p):
    """Return the probability of the tapes that a row of counts by heads counts."""
    heads = Fraction(*p)
    return sum(c * heads ** k * (1 - heads) ** (len(row) - 1 - k) for k, c in enumerate(row))


class Limits(unittest.TestCase):

    def check_limit(self, machine):
        for call in (
            lambda: answer_probability(machine, 1), lambda: nontermination_probability(machine),
            lambda: expected_tosses(machine),
        ):
            with self.assertRaises(LimitExceeded) as held:
                call()
            self.assertEqual(held.exception.limit, 12)

    def test_twelve_toss_states(self):
        chain = make_chain(13)
        self.assertEqual(expected_tosses(chain)[0], ((12,), (1,)))
        self.assertEqual(answer_probability(chain, 3)[0], ONE)
        self.assertEqual(nontermination_probability(chain)[0], ZERO)

    def test_thirteen_toss_states(self):
        self.check_limit(make_chain(14))
        self.check_limit(make_chain(60))

    def test_unreachable_toss_states_count(self):
        self.check_limit((("end", 1), *[("toss", 0, 0)] * 13))
        self.assertEqual(answer_probability((("end", 1), *[("toss", 0, 0)] * 12), 1)[0], ONE)

    def test_other_states_do_not_count(self):
        machine = (*BRANCHES, *[("end", 9)] * 20, *[("never",)] * 20)
        self.assertEqual(count_toss_states(machine), 12)
        self.assertEqual(answer_probability(machine, 9)[0], ZERO)

    def test_trap(self):
        for machine in twelve_at_most(317, 60):
            if not surely_ends(machine):
                with self.assertRaises(MayNotTerminate) as held:
                    expected_tosses(machine)
                trap = held.exception.trap
                self.assertEqual((type(trap), len(trap)), (tuple, 2))
                self.assertTrue(check_claim(("trapped", machine), ("trap", *trap)))

    def test_limit_comes_before_trap(self):
        self.check_limit((("toss", 0, 0),) * 13)
        self.check_limit((("toss", 0, 1), ("never",), *[("toss", 0, 0)] * 12))
        self.assertRaises(MayNotTerminate, expected_tosses, (("toss", 0, 0),) * 12)

    def test_largest(self):
        generator = make_generator(318)
        for _ in range(5):
            tosses = [("toss", generator.randrange(1, 16), generator.randrange(16)) for _ in range(12)]
            machine = (*tosses, *[("end", k) for k in range(4)])
            for answer in range(4):
                rational, certificate = answer_probability(machine, answer)
                self.assertTrue(check_claim(("chance", machine, answer, rational), certificate))

    def test_ended_at_once(self):
        self.assertEqual(answer_probability(ENDED, 7), (ONE, ("table", (ONE,))))
        self.assertEqual(answer_probability(ENDED, 0), (ZERO, ("table", (ZERO,))))
        self.assertEqual(nontermination_probability(NEVER), (ONE, ("table", (ONE,))))
        self.assertEqual(expected_tosses(ENDED), (ZERO, ("table", (ZERO,), (0,))))


if __name__ == "__main__":
    unittest.main()
