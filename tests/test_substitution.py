"""Promise 19: coin machines, substitution, exchanged sides, chains."""

import unittest
from copy import deepcopy
from itertools import product

from bentcoin.errors import InvalidCoin, LimitExceeded
from bentcoin.machines import machine_error, run_machine
from bentcoin.probabilities import answer_probability, expected_tosses, nontermination_probability
from bentcoin.rationals import add_rationals, compose_rationals, multiply_rationals
from bentcoin.recipes import machine_from_recipe
from bentcoin.substitution import chain_machines, coin_error, substitute_coin, swap_sides
from tests.helpers import make_generator
from tests.machine_helpers import (
    COIN, CYCLE_TRAP, ENDED, FAIR, HALF_TRAP, LOOP, MACHINES, MIXED, NEVER, P, REST, TWICE, UNREACHED,
    make_chain, plain_reachable, plain_run, random_machine, random_tape, surely_ends,
)

SWAPPED = (("toss", 2, 1), ("end", 1), ("end", 0))
SQUARE = (("toss", 1, 3), ("toss", 2, 3), ("end", 1), ("end", 0))
# Ends and toss states that are not reachable, "never" among them.
HIDDEN = (("toss", 1, 2), ("end", 1), ("toss", 3, 0), ("end", 0), ("end", 7), ("toss", 6, 4), ("never",))
RECIPE = machine_from_recipe((3, (0, 1, 2, 0), (1, 2, 3, 0)))
COINS = (COIN, SWAPPED, FAIR, SQUARE, HIDDEN, RECIPE)
TAPES = tuple("".join(row) for size in range(8) for row in product("HT", repeat=size))


def plain_coin_error(machine):
    reached = plain_reachable(machine)
    if not surely_ends(machine):
        return "ends"
    answers = {machine[k][1] for k in reached if machine[k][0] == "end"}
    if answers - {0, 1}:
        return "answers"
    return None if answers == {0, 1} else "sure"


def plain_substituted(machine, inner, tape):
    """Run the outer machine on what the inner one answers along the tape, run again and again."""
    at, used = 0, 0
    while machine[at][0] == "toss":
        result = plain_run(inner, tape[used:])
        if result[0] == "going":
            return ("going",)
        used += result[2]
        at = machine[at][1 if result[1] == 1 else 2]
    return ("never", used) if machine[at][0] == "never" else ("ended", machine[at][1], used)


def plain_chained(machine, followers, tape):
    """Run the machine, and from its end on the machine for its answer."""
    result = plain_run(machine, tape)
    if result[0] != "ended" or result[1] not in followers:
        return result
    other = plain_run(followers[result[1]], tape[result[2]:])
    if other[0] == "going":
        return other
    return (*other[:-1], other[-1] + result[2])


def told(result):
    """Return the result without the state of a machine that still goes."""
    return result[:1] if result[0] == "going" else result


def count_reached(machine, *words):
    return sum(machine[k][0] in words for k in plain_reachable(machine))


def random_coin(generator, size):
    while True:
        machine = random_machine(generator, size, 2)
        if plain_coin_error(machine) is None:
            return machine


class Coins(unittest.TestCase):

    def test_example(self):
        self.assertEqual(coin_error((("end", 1),)), "sure")

    def test_words(self):
        for machine, word in (
            *[(coin, None) for coin in COINS], (NEVER, "ends"), (LOOP, "ends"), (HALF_TRAP, "ends"),
            (CYCLE_TRAP, "ends"), (ENDED, "answers"), (TWICE, "answers"), (UNREACHED, "answers"),
            ((("end", 0),), "sure"), ((("end", 1),), "sure"), ((("toss", 1, 1), ("end", 1)), "sure"),
            ((("toss", 1, 2), ("end", 1), ("end", 2)), "answers"), ((("toss", 0, 1), ("end", 0)), "sure"),
            ((("toss", 1, 1), ("end", 0), ("end", 1)), "sure"), ((*COIN, ("end", 5), ("never",)), None),
        ):
            self.assertEqual(coin_error(machine), word, machine)
            self.assertEqual(coin_error(machine=machine), word)

    def test_order(self):
        # Several apply: first "ends", then "answers", then "sure".
        self.assertEqual(coin_error((("toss", 1, 2), ("end", 5), ("never",))), "ends")
        self.assertEqual(coin_error((("toss", 1, 2), ("end", 5), ("toss", 2, 2))), "ends")
        self.assertEqual(coin_error((("toss", 1, 2), ("end", 5), ("end", 1))), "answers")
        self.assertEqual(coin_error((("toss", 1, 1), ("end", 99))), "answers")

    def test_random(self):
        generator = make_generator(801)
        words = set()
        for _ in range(400):
            machine = random_machine(generator, generator.randint(1, 7), generator.choice((1, 2, 3)))
            words.add(coin_error(machine))
            self.assertEqual(coin_error(machine), plain_coin_error(machine))
        self.assertEqual(words, {None, "ends", "answers", "sure"})


class Substitution(unittest.TestCase):

    def check(self, machine, inner, tapes=TAPES):
        result = substitute_coin(machine, inner)
        self.assertIsNone(machine_error(result))
        for tape in tapes:
            due = plain_substituted(machine, inner, tape)
            self.assertEqual(told(run_machine(result, tape)), due, (machine, inner, tape))
        a = count_reached(machine, "end", "never")
        b, c = count_reached(machine, "toss"), count_reached(inner, "toss")
        self.assertLessEqual(len(result), a + b * c)
        self.assertLessEqual(sum(state[0] == "toss" for state in result), b * c)
        self.assertEqual(result, substitute_coin(inner=inner, machine=machine))
        return result

    def some_pairs(self):
        generator = make_generator(802)
        pairs = [(machine, coin) for machine in (*MACHINES, *COINS) for coin in COINS]
        for _ in range(40):
            pairs.append((random_machine(generator, generator.randint(1, 8)), random_coin(generator, generator.randint(3, 6))))
        return pairs

    def test_example(self):
        self.assertEqual(run_machine(substitute_coin(COIN, FAIR), "TTTH"), ("ended", 0, 4))

    def test_on_all_tapes(self):
        for machine, coin in self.some_pairs():
            self.check(machine, coin)

    def test_on_long_tapes(self):
        generator = make_generator(803)
        for machine, coin in self.some_pairs()[::3]:
            self.check(machine, coin, [random_tape(generator, 60) for _ in range(20)])

    def test_the_biased_coin(self):
        for machine in MACHINES:
            result = self.check(machine, COIN)
            for tape in TAPES:
                self.assertEqual(told(run_machine(result, tape)), told(plain_run(machine, tape)))

    def test_without_tosses(self):
        for coin in COINS:
            self.assertEqual(self.check(ENDED, coin)[0], ("end", 7))
            self.assertEqual(self.check(NEVER, coin), NEVER)

    def test_values(self):
        checked = 0
        for machine, coin in self.some_pairs():
            b, c = count_reached(machine, "toss"), count_reached(coin, "toss")
            if b * c > 12 or sum(state[0] == "toss" for state in machine) > 12:
                continue
            checked += 1
            result = substitute_coin(machine, coin)
            heads = answer_probability(coin, 1)[0]
            for answer in (0, 1, 2, 3, 7):
                outer = answer_probability(machine, answer)[0]
                self.assertEqual(answer_probability(result, answer)[0], compose_rationals(outer, heads))
            outer = nontermination_probability(machine)[0]
            self.assertEqual(nontermination_probability(result)[0], compose_rationals(outer, heads))
            if surely_ends(machine):
                outer = compose_rationals(expected_tosses(machine)[0], heads)
                mean = multiply_rationals(outer, expected_tosses(coin)[0])
                self.assertEqual(expected_tosses(result)[0], mean)
        self.assertGreater(checked, 60)

    def test_no_coin(self):
        for machine, reason in (
            (HALF_TRAP, "ends"), (TWICE, "answers"), ((("end", 1),), "sure"), (NEVER, "ends"), (MIXED, "ends"),
        ):
            for outer in (COIN, ENDED, make_chain(60)):
                with self.assertRaises(InvalidCoin) as held:
                    substitute_coin(outer, machine)
                self.assertEqual(held.exception.reason, reason)

    def test_limit(self):
        # a + b c is 1 + 59, 2 + 29 * 2, 1 + 20 * 3 and so on, counted for reachable states alone.
        for outer, coin, total in (
            (make_chain(60), COIN, 60), (make_chain(30), SQUARE, 59), (make_chain(31), SQUARE, 61),
            ((*make_chain(30), ("toss", 0, 0), ("end", 1)), SQUARE, 59), (make_chain(20), FAIR, 58),
            (make_chain(21), FAIR, 61), (HALF_TRAP, (*COIN, *[("toss", 0, 0)] * 57), 3),
            (self.two_ends(29), SQUARE, 60), (self.two_ends(30), SQUARE, 62), (self.two_ends(58), COIN, 60),
        ):
            a = count_reached(outer, "end", "never")
            self.assertEqual(a + count_reached(outer, "toss") * count_reached(coin, "toss"), total)
            if total <= 60:
                self.check(outer, coin)
            else:
                with self.assertRaises(LimitExceeded) as held:
                    substitute_coin(outer, coin)
                self.assertEqual(held.exception.limit, 60)

    def two_ends(self, tosses):
        """Return a machine of so many toss states and two ends."""
        chain = [("toss", k + 1, k + 1) for k in range(tosses - 1)]
        return (*chain, ("toss", tosses, tosses + 1), ("end", 3), ("end", 3))

    def test_two_ends_with_one_answer_count_twice(self):
        # 2 + 29 * 2 and 2 + 30 * 2 states, though equal ends could be one.
        self.check(self.two_ends(29), SQUARE)
        self.assertRaises(LimitExceeded, substitute_coin, self.two_ends(30), SQUARE)

    def test_invalid_coin_before_limit(self):
        large = tuple(("toss", (k + 1) % 60, 59) for k in range(59)) + (("never",),)
        with self.assertRaises(InvalidCoin) as held:
            substitute_coin(make_chain(60), large)
        self.assertEqual(held.exception.reason, "ends")
        coin = (*[("toss", k + 1, k + 1) for k in range(20)], ("toss", 21, 22), ("end", 1), ("end", 0))
        self.assertRaises(LimitExceeded, substitute_coin, make_chain(60), coin)


class Sides(unittest.TestCase):

    def test_example(self):
        self.assertEqual(swap_sides(COIN), SWAPPED)

    def test_state_by_state(self):
        generator = make_generator(804)
        machines = [*MACHINES, *COINS, *[random_machine(generator, k) for k in range(1, 40)]]
        for machine in machines:
            swapped = swap_sides(machine)
            self.assertEqual(swapped, swap_sides(machine=machine))
            self.assertIsNone(machine_error(swapped))
            due = tuple(("toss", s[2], s[1]) if s[0] == "toss" else s for s in machine)
            self.assertEqual(swapped, due)
            self.assertEqual(swap_sides(swapped), machine)
            for tape in TAPES[:63]:
                other = tape.translate({72: "T", 84: "H"})
                self.assertEqual(run_machine(swapped, tape), plain_run(machine, other))

    def test_values(self):
        for machine in MACHINES:
            for answer in (0, 1, 3, 7):
                due = compose_rationals(answer_probability(machine, answer)[0], ((1, -1), (1,)))
                self.assertEqual(answer_probability(swap_sides(machine), answer)[0], due)


class Chains(unittest.TestCase):

    def check(self, machine, followers, tapes=TAPES):
        kept = deepcopy(followers)
        result = chain_machines(machine, followers)
        self.assertIsNone(machine_error(result))
        for tape in tapes:
            due = told(plain_chained(machine, followers, tape))
            self.assertEqual(told(run_machine(result, tape)), due, (machine, followers, tape))
        states, tosses = self.count(machine, followers)
        self.assertLessEqual(len(result), states)
        self.assertLessEqual(sum(state[0] == "toss" for state in result), tosses)
        self.assertEqual(followers, kept)
        self.assertEqual(result, chain_machines(followers=followers, machine=machine))
        return result

    def count(self, machine, followers):
        reached = plain_reachable(machine)
        answers = {machine[k][1] for k in reached if machine[k][0] == "end"}
        states = sum(not (machine[k][0] == "end" and machine[k][1] in followers) for k in reached)
        tosses = count_reached(machine, "toss")
        for answer in answers & set(followers):
            states += len(plain_reachable(followers[answer]))
            tosses += count_reached(followers[answer], "toss")
        return states, tosses

    def test_example(self):
        self.assertEqual(run_machine(chain_machines(COIN, {1: (("end", 7),)}), "H"), ("ended", 7, 1))

    def test_no_followers(self):
        for machine in MACHINES:
            result = self.check(machine, {})
            for tape in TAPES:
                self.assertEqual(told(run_machine(result, tape)), told(plain_run(machine, tape)))

    def test_keys(self):
        for machine in MACHINES:
            self.check(machine, {0: FAIR, 1: COIN, 7: MIXED})
            # No end has this answer.
            self.assertEqual(len(self.check(machine, {57: make_chain(60)})), len(self.check(machine, {})))
        # An end that is not reachable has it.
        for followers in ({9: make_chain(60)}, {9: NEVER, 4: ENDED}, {4: NEVER}):
            self.check(UNREACHED, followers)

    def test_at_once(self):
        self.assertEqual(self.check(ENDED, {7: COIN}), COIN)
        self.assertEqual(self.check(ENDED, {7: NEVER}), NEVER)
        self.assertEqual(self.check(ENDED, {7: ENDED}), ENDED)
        self.assertEqual(self.check(NEVER, {7: COIN}), NEVER)

    def test_followers_that_are_the_machine_itself(self):
        for machine in (COIN, FAIR, MIXED, TWICE, CYCLE_TRAP):
            for followers in ({0: machine}, {0: machine, 1: machine}, {1: machine, 5: machine, 3: machine}):
                self.check(machine, followers)
        # The ends of what follows stay, though their answers are keys.
        self.assertEqual(run_machine(chain_machines(COIN, {1: COIN}), "HH"), ("ended", 1, 2))

    def test_random(self):
        generator = make_generator(805)
        for _ in range(60):
            machine = random_machine(generator, generator.randint(1, 9))
            keys = [key for key in range(4) if generator.random() < 0.6]
            followers = {key: random_machine(generator, generator.randint(1, 7)) for key in keys}
            self.check(machine, followers)
            self.check(machine, followers, [random_tape(generator, 50) for _ in range(10)])

    def test_limit(self):
        def ends(answers):
            """Return a machine with an end for each answer, all of them reachable."""
            size = len(answers)
            tosses = [("toss", k + 1, size - 1 + k) for k in range(size - 1)]
            return (*tosses[:-1], ("toss", 2 * size - 3, 2 * size - 2), *[("end", a) for a in answers])

        for machine, followers, total in (
            (make_chain(30), {3: make_chain(31)}, 60), (make_chain(30), {3: make_chain(32)}, 61),
            (make_chain(60), {3: ENDED}, 60), (make_chain(60), {3: COIN}, 62), (make_chain(60), {4: COIN}, 60),
            (COIN, {0: make_chain(29), 1: make_chain(30)}, 60), (COIN, {0: make_chain(30), 1: make_chain(30)}, 61),
            # One key for two ends: the machine for it counts once.
            (ends((1, 1, 0)), {1: make_chain(57)}, 60), (ends((1, 1, 0)), {1: make_chain(58)}, 61),
            ((*COIN, ("end", 5)), {5: make_chain(60)}, 3), (COIN, {1: (*COIN, *[("end", 3)] * 57)}, 5),
        ):
            self.assertEqual(self.count(machine, followers)[0], total)
            if total <= 60:
                self.check(machine, followers)
            else:
                with self.assertRaises(LimitExceeded) as held:
                    chain_machines(machine, followers)
                self.assertEqual(held.exception.limit, 60)

    def test_values(self):
        # Behind one toss, the probability of an answer is the mean of both machines'.
        for one, other in ((FAIR, COIN), (SQUARE, FAIR), (HALF_TRAP, SQUARE), (TWICE, MIXED)):
            result = chain_machines(COIN, {1: one, 0: other})
            for answer in (0, 1, 5):
                heads = multiply_rationals(P, answer_probability(one, answer)[0])
                tails = multiply_rationals(REST, answer_probability(other, answer)[0])
                self.assertEqual(answer_probability(result, answer)[0], add_rationals(heads, tails))


if __name__ == "__main__":
    unittest.main()
