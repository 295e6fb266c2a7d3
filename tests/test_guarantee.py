"""Promise 3 over the whole program: what is led from one form into another keeps its probabilities."""

import unittest

from bentcoin.checker import check_claim
from bentcoin.choices import recipe_from_choices
from bentcoin.equivalence import compare_machines
from bentcoin.errors import LimitExceeded
from bentcoin.execution import compile_program
from bentcoin.formats import (
    format_machine, format_program, format_rational, format_recipe, parse_machine, parse_program,
    parse_rational, parse_recipe,
)
from bentcoin.probabilities import answer_probability, expected_tosses, nontermination_probability
from bentcoin.programs import program_error
from bentcoin.rationals import compose_rationals
from bentcoin.recipes import lengthen_recipe, machine_from_recipe, recipe_expected_tosses, recipe_probability
from bentcoin.registry import Registry
from bentcoin.substitution import chain_machines, coin_error, substitute_coin, swap_sides
from bentcoin.synthesis import synthesize
from tests.helpers import make_generator
from tests.machine_helpers import COIN, FAIR, MACHINES, random_machine, surely_ends

TAILS = ((1, -1), (1,))


def program_of(machine):
    """Return a program that keeps the state of a machine of at most ten states in a variable."""
    rows = []
    for k, state in enumerate(machine):
        if state[0] == "toss":
            act = ("toss", (("set", "state", state[1]),), (("set", "state", state[2]),))
        elif state[0] == "end":
            act = ("end", state[1])
        else:
            act = ("loop", ())
        rows.append(("if", ("alike", "state", k), (act,), ()))
    return ((("loop", tuple(rows)),), ())


def count_tosses(machine):
    return sum(state[0] == "toss" for state in machine)


class Ways(unittest.TestCase):

    def some_machines(self):
        generator = make_generator(1101)
        found = [machine for machine in MACHINES if len(machine) <= 10]
        while len(found) < 60:
            found.append(random_machine(generator, generator.randint(2, 10)))
        return found

    def assert_same(self, one, other):
        """Check that both machines do the same for every p, whichever way it is asked."""
        result = compare_machines(one, other)
        self.assertEqual(result[0], "alike")
        self.assertTrue(check_claim(("alike", one, other), result[1]))
        self.assertEqual(nontermination_probability(one)[0], nontermination_probability(other)[0])
        registry = Registry()
        registry.define("one", "machine", one, None)
        registry.define("other", "machine", other, None)
        self.assertIsNone(registry.query(("alike", "one", "other")))

    def test_machine_to_program(self):
        for machine in self.some_machines():
            program = program_of(machine)
            self.assertIsNone(program_error(program))
            compiled = compile_program(program)
            self.assert_same(machine, compiled)
            if surely_ends(machine):
                self.assertEqual(expected_tosses(machine)[0], expected_tosses(compiled)[0])
            self.assert_same(machine, compile_program(parse_program(format_program(program))))

    def test_machine_to_recipe_to_machine(self):
        checked = 0
        for machine in self.some_machines():
            for answer in (0, 1, -1):
                recipe = recipe_from_choices(machine, answer)
                if answer == -1:
                    chance = nontermination_probability(machine)[0]
                else:
                    chance = answer_probability(machine, answer)[0]
                self.assertEqual(recipe_probability(recipe), chance)
                self.assertEqual(parse_recipe(format_recipe(recipe)), recipe)
                self.assertTrue(check_claim(("recipe", chance, recipe), ()))
                self.check_synthesis(chance, recipe[0])
                if 1 <= recipe[0] <= 3:
                    checked += 1
                    other = machine_from_recipe(recipe)
                    self.assertEqual(answer_probability(other, 1)[0], chance)
                    self.assertEqual(expected_tosses(other)[0], recipe_expected_tosses(recipe))
                    self.assertEqual(recipe_probability(lengthen_recipe(recipe)), chance)
        self.assertGreater(checked, 40)

    def check_synthesis(self, chance, tosses):
        """Check that a recipe is found for what has one of so many tosses, or that more are needed."""
        self.assertEqual(parse_rational(format_rational(chance)), chance)
        result = synthesize(chance, tosses=40)
        self.assertEqual(result[0], "recipe")
        self.assertEqual(recipe_probability(result[1]), chance)
        for most in range(min(result[1][0], 13)):
            word, certificate = synthesize(chance, tosses=most)
            self.assertEqual(word, "dear")
            self.assertTrue(check_claim(("dear", chance, most), certificate))
        self.assertFalse(check_claim(("none", chance), synthesize(((0, 2), (1,)))[1]))

    def test_recipe_as_the_coin(self):
        for machine in self.some_machines():
            for inner in (FAIR, machine_from_recipe((2, (0, 1, 1), (0, 2, 1))), machine_from_recipe((1, (0, 1), (1, 1)))):
                if count_tosses(machine) * count_tosses(inner) > 12:
                    continue
                whole = substitute_coin(machine, inner)
                heads = answer_probability(inner, 1)[0]
                for answer in (0, 1, 2):
                    due = compose_rationals(answer_probability(machine, answer)[0], heads)
                    self.assertEqual(answer_probability(whole, answer)[0], due)
                registry = Registry()
                registry.define("coin", "machine", inner, None)
                registry.define("top", "machine", machine, "coin")
                registry.define("whole", "program" if len(whole) <= 10 else "machine", program_of(whole) if len(whole) <= 10 else whole, None)
                self.assertIsNone(registry.query(("alike", "top", "whole")))

    def test_swapping(self):
        for machine in self.some_machines():
            self.assert_same(swap_sides(swap_sides(machine)), machine)
            swapped = swap_sides(machine)
            self.assertEqual(parse_machine(format_machine(swapped)), swapped)
            for answer in (0, 1):
                due = compose_rationals(answer_probability(machine, answer)[0], TAILS)
                self.assertEqual(answer_probability(swapped, answer)[0], due)
            # The other side of the coin as the coin.
            self.assert_same(swapped, substitute_coin(machine, swap_sides(COIN)))

    def test_chaining(self):
        for machine in self.some_machines():
            # Each answer leads to an end with the same answer.
            followers = {answer: (("end", answer),) for answer in range(10)}
            self.assert_same(chain_machines(machine, followers), machine)
            self.assert_same(chain_machines((("end", 5),), {5: machine}), machine)

    def test_coins_of_coins(self):
        registry = Registry()
        registry.define("a", "machine", FAIR, None)
        registry.define("b", "recipe", (2, (0, 1, 1), (0, 2, 1)), "a")
        registry.define("c", "program", program_of(FAIR), "b")
        fair = answer_probability(FAIR, 1)[0]
        self.assertEqual(registry.query(("chance", "c", 1)), fair)
        whole = substitute_coin(machine_from_recipe((2, (0, 1, 1), (0, 2, 1))), FAIR)
        self.assertIsNone(coin_error(whole))
        registry.define("d", "machine", whole, None)
        self.assertIsNone(registry.query(("alike", "b", "d")))
        self.assertEqual(registry.query(("mean", "b")), registry.query(("mean", "d")))
        self.assertRaises(LimitExceeded, substitute_coin, substitute_coin(FAIR, whole), FAIR)


if __name__ == "__main__":
    unittest.main()
