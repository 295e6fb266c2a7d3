"""Promise 14: good choices."""

import unittest
from itertools import product
from math import comb

from bentcoin.checker import check_claim
from bentcoin.choices import (
    MAX_CHOICE_STATES, count_good_choices, expected_tosses_from_choices, recipe_from_choices,
)
from bentcoin.errors import LimitExceeded, MayNotTerminate
from bentcoin.probabilities import answer_probability, expected_tosses, nontermination_probability
from tests.helpers import make_generator
from tests.machine_helpers import (
    COIN, CYCLE_TRAP, ENDED, FAIR, HALF_TRAP, LOOP, MACHINES, MIXED, NEVER, UNREACHED, make_chain,
    plain_distance, plain_reachable, random_machine, surely_ends,
)


def tossers_of(machine):
    return [
        k for k in sorted(plain_reachable(machine))
        if machine[k][0] == "toss" and plain_distance(machine, k) is not None
    ]


def plain_choices(machine):
    """Return pairs (weight, where state 0 leads to) of all good choices, by the words of promise 14."""
    tossers = tossers_of(machine)
    found = []
    for sides in product((1, 2), repeat=len(tossers)):
        next_of = {x: machine[x][side] for x, side in zip(tossers, sides)}
        goals = {}
        for start in (*tossers, 0):
            at, seen = start, set()
            while at in next_of and at not in seen:
                seen.add(at)
                at = next_of[at]
            goals[start] = at
        if not any(goal in next_of for goal in goals.values()):
            found.append((sides.count(1), goals[0]))
    return found


def plain_recipe(machine, answer):
    j = len(tossers_of(machine))
    ds, es = [0] * (j + 1), [0] * (j + 1)
    for weight, goal in plain_choices(machine):
        es[weight] += 1
        told = machine[goal][1] if machine[goal][0] == "end" else -1
        ds[weight] += told == answer
    return (j, tuple(ds), tuple(es))


def some_machines(number, count, most=7):
    """Return the named machines and random ones with at most so many tossers."""
    generator = make_generator(number)
    found = list(MACHINES)
    while len(found) < count:
        machine = random_machine(generator, generator.randint(1, 14))
        if len(tossers_of(machine)) <= most:
            found.append(machine)
    return found


def answers_of(machine):
    return sorted({state[1] for state in machine if state[0] == "end"})


class Choices(unittest.TestCase):

    def test_examples(self):
        self.assertEqual(count_good_choices(FAIR), (0, 2, 2, 0))
        self.assertEqual(recipe_from_choices(FAIR, 1), (3, (0, 1, 1, 0), (0, 2, 2, 0)))
        self.assertEqual(expected_tosses_from_choices(FAIR), ((1,), (0, 1, -1)))
        self.assertEqual(MAX_CHOICE_STATES, 10)

    def test_counts(self):
        for machine in some_machines(331, 60):
            counts = count_good_choices(machine)
            self.assertIs(type(counts), tuple)
            self.assertEqual(counts, plain_recipe(machine, 0)[2])
            self.assertEqual(counts, count_good_choices(machine=machine))

    def test_recipes(self):
        for machine in some_machines(332, 60):
            for answer in (*answers_of(machine), -1, 57):
                recipe = recipe_from_choices(machine, answer)
                self.assertEqual(recipe, plain_recipe(machine, answer))
                self.assertEqual(recipe, recipe_from_choices(answer=answer, machine=machine))
                self.check_recipe(machine, answer, recipe)

    def check_recipe(self, machine, answer, recipe):
        j, ds, es = recipe
        self.assertEqual((len(ds), len(es)), (j + 1, j + 1))
        for k in range(j + 1):
            self.assertTrue(0 <= ds[k] <= es[k] <= comb(j, k))
        self.assertTrue(any(es))
        if sum(state[0] == "toss" for state in machine) <= 12:
            if answer == -1:
                rational = nontermination_probability(machine)[0]
            else:
                rational = answer_probability(machine, answer)[0]
            self.assertTrue(check_claim(("recipe", rational, recipe), ()))

    def test_no_tossers(self):
        self.assertEqual(count_good_choices(ENDED), (1,))
        self.assertEqual(count_good_choices(NEVER), (1,))
        self.assertEqual(count_good_choices(LOOP), (1,))
        self.assertEqual(recipe_from_choices(ENDED, 7), (0, (1,), (1,)))
        self.assertEqual(recipe_from_choices(ENDED, 6), (0, (0,), (1,)))
        self.assertEqual(recipe_from_choices(ENDED, -1), (0, (0,), (1,)))
        for machine in (NEVER, LOOP):
            self.assertEqual(recipe_from_choices(machine, -1), (0, (1,), (1,)))
            self.assertEqual(recipe_from_choices(machine, 0), (0, (0,), (1,)))
        self.assertEqual(expected_tosses_from_choices(ENDED), ((), (1,)))

    def test_running_forever(self):
        self.assertEqual(recipe_from_choices(HALF_TRAP, -1), (1, (1, 0), (1, 1)))
        self.assertEqual(recipe_from_choices(CYCLE_TRAP, -1), (1, (1, 0), (1, 1)))
        self.assertEqual(recipe_from_choices(COIN, -1), (1, (0, 0), (1, 1)))

    def test_one_state_for_both_sides(self):
        # Heads and tails are two choices, though their successor is the same.
        self.assertEqual(count_good_choices((("toss", 1, 1), ("end", 0))), (1, 1))

    def test_means(self):
        seen = 0
        for machine in some_machines(333, 90):
            if surely_ends(machine) and sum(state[0] == "toss" for state in machine) <= 12:
                seen += 1
                mean = expected_tosses_from_choices(machine)
                self.assertEqual(mean, expected_tosses(machine)[0])
                self.assertEqual(mean, expected_tosses_from_choices(machine=machine))
        self.assertGreater(seen, 20)

    def test_trap(self):
        for machine in some_machines(334, 60):
            if not surely_ends(machine):
                with self.assertRaises(MayNotTerminate) as held:
                    expected_tosses_from_choices(machine)
                trap = held.exception.trap
                self.assertEqual((type(trap), len(trap)), (tuple, 2))
                self.assertTrue(check_claim(("trapped", machine), ("trap", *trap)))


class Limits(unittest.TestCase):

    def check_limit(self, machine):
        for call in (
            lambda: count_good_choices(machine), lambda: recipe_from_choices(machine, 1),
            lambda: expected_tosses_from_choices(machine),
        ):
            with self.assertRaises(LimitExceeded) as held:
                call()
            self.assertEqual(held.exception.limit, 10)

    def test_ten_tossers(self):
        chain = make_chain(11)
        self.assertEqual(count_good_choices(chain), tuple(comb(10, k) for k in range(11)))
        self.assertEqual(recipe_from_choices(chain, 3)[1], count_good_choices(chain))
        self.assertEqual(expected_tosses_from_choices(chain), ((10,), (1,)))

    def test_eleven_tossers(self):
        self.check_limit(make_chain(12))
        self.check_limit(make_chain(60))

    def test_limit_comes_before_trap(self):
        tosses = [("toss", k + 1, 12) for k in range(11)]
        self.check_limit((*tosses, ("end", 1), ("never",)))

    def test_only_tossers_count(self):
        # Neither unreachable toss states nor those that no end is reachable from.
        self.assertEqual(count_good_choices((*COIN, *[("toss", 0, 0)] * 57)), (1, 1))
        trap = [("toss", k + 3, k + 3) for k in range(20)]
        machine = (("toss", 1, 2), ("end", 1), *trap, ("toss", 2, 2))
        self.assertEqual(recipe_from_choices(machine, -1), (1, (1, 0), (1, 1)))
        self.assertRaises(MayNotTerminate, expected_tosses_from_choices, machine)

    def test_largest(self):
        generator = make_generator(335)
        for _ in range(3):
            tosses = [("toss", (k + 1) % 10, generator.randrange(13)) for k in range(9)]
            machine = (*tosses, ("toss", 10, generator.randrange(13)), *[("end", k) for k in range(3)])
            self.assertEqual(len(tossers_of(machine)), 10)
            for answer in (0, 1, 2, -1):
                recipe = recipe_from_choices(machine, answer)
                self.assertEqual(recipe, plain_recipe(machine, answer))
            self.assertEqual(expected_tosses_from_choices(machine), expected_tosses(machine)[0])


if __name__ == "__main__":
    unittest.main()
