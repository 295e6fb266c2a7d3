"""Promises 15 and 16: ranks of rows, and recipes."""

import unittest
from fractions import Fraction
from itertools import product
from math import comb

from bentcoin.checker import check_claim
from bentcoin.choices import recipe_from_choices
from bentcoin.errors import LimitExceeded
from bentcoin.machines import count_tapes, machine_error, run_machine
from bentcoin.probabilities import answer_probability, expected_tosses, nontermination_probability
from bentcoin.rationals import reduce_rational
from bentcoin.recipes import (
    lengthen_recipe, machine_from_recipe, rank_in_row, recipe_error, recipe_expected_tosses,
    recipe_probability, run_recipe,
)
from tests.changes import ANY, list_changes
from tests.helpers import make_generator, plain_value
from tests.machine_helpers import MACHINES, ONE, ZERO, random_machine, random_tape

POINTS = (Fraction(1, 2), Fraction(1, 3), Fraction(5, 7), Fraction(1, 100), Fraction(998, 999))
FAIR = (2, (0, 1, 0), (0, 2, 0))
RECIPES = (
    (0, (0,), (1,)), (0, (1,), (1,)), (1, (0, 1), (1, 1)), (1, (0, 0), (1, 0)), (1, (0, 1), (0, 1)),
    FAIR, (2, (0, 0, 1), (0, 2, 1)), (2, (1, 2, 1), (1, 2, 1)), (2, (0, 0, 0), (0, 1, 0)),
    (3, (0, 2, 0, 1), (1, 3, 0, 1)), (3, (0, 1, 3, 0), (1, 1, 3, 1)), (5, (0, 3, 7, 1, 5, 0), (1, 4, 7, 8, 5, 0)),
)


def all_rows(size):
    """Return the rows of this many characters in string order."""
    return ["".join(row) for row in product("HT", repeat=size)]


def plain_rank(row):
    return sum(other < row for other in all_rows(len(row)) if other.count("H") == row.count("H"))


def random_recipe(generator, tosses):
    while True:
        es = tuple(generator.choice((0, generator.randint(0, comb(tosses, k)))) for k in range(tosses + 1))
        if any(es):
            return (tosses, tuple(generator.choice((0, e, generator.randint(0, e))) for e in es), es)


def plain_decide(recipe, row):
    """Return what the row says, by the words of promise 16."""
    heads = row.count("H")
    rank = plain_rank(row)
    if rank < recipe[1][heads]:
        return "yes"
    return "no" if rank < recipe[2][heads] else "again"


def row_sums(recipe, p):
    """Return the probabilities that one round says yes, and that it says yes or no, at p."""
    sums = {"yes": Fraction(0), "no": Fraction(0), "again": Fraction(0)}
    for row in all_rows(recipe[0]):
        sums[plain_decide(recipe, row)] += p ** row.count("H") * (1 - p) ** row.count("T")
    return sums["yes"], sums["yes"] + sums["no"]


def value_at(rational, p):
    return plain_value(rational[0], p) / plain_value(rational[1], p)


class Ranks(unittest.TestCase):

    def test_example(self):
        self.assertEqual(rank_in_row("HTH"), 1)
        self.assertEqual(rank_in_row(tape="THH"), 2)

    def test_all_rows(self):
        for size in range(11):
            seen = {}
            for row in all_rows(size):
                heads = row.count("H")
                self.assertEqual(rank_in_row(row), seen.get(heads, 0), row)
                seen[heads] = seen.get(heads, 0) + 1
        self.assertEqual(rank_in_row(""), 0)

    def test_forty_characters(self):
        for heads in range(41):
            self.assertEqual(rank_in_row("H" * heads + "T" * (40 - heads)), 0)
            self.assertEqual(rank_in_row("T" * (40 - heads) + "H" * heads), comb(40, heads) - 1)
        # The rows that precede T.. are those that begin with H; H.. has the rank of its rest.
        generator = make_generator(601)
        for _ in range(50):
            rest = random_tape(generator, 39)
            heads = rest.count("H")
            self.assertEqual(rank_in_row("H" + rest), rank_in_row(rest))
            before = comb(39, heads - 1) if heads > 0 else 0
            self.assertEqual(rank_in_row("T" + rest), before + rank_in_row(rest))


class Errors(unittest.TestCase):

    def test_example(self):
        self.assertEqual(recipe_error((1, (1, 1), (1, 2))), ("row", 1))
        self.assertIsNone(recipe_error(value=FAIR))

    def test_recipes(self):
        for recipe in RECIPES:
            self.assertIsNone(recipe_error(recipe))
        rows = tuple(comb(40, k) for k in range(41))
        self.assertIsNone(recipe_error((40, rows, rows)))
        self.assertIsNone(recipe_error((40, (0,) * 41, (*rows[:-1], 0))))

    def test_form(self):
        for value in (
            (-1, (), ()), (41, (0,) * 42, (1,) * 42), (True, (0, 0), (1, 1)), (False, (0,), (1,)),
            (0, (False,), (1,)), (0, (0,), (True,)), (1, (0, 0), (1, True)), (1, (False, 0), (1, 1)),
            (1, [0, 0], (1, 1)), (1, (0, 0), [1, 1]), [1, (0, 0), (1, 1)], (1, (0,), (1, 1)), (1, (0, 0), (1,)),
            (1, (0, 0, 0), (1, 1)), (1, (0, 0), (1, 1, 0)), (1, (0, 0)), (1, (0, 0), (1, 1), ()), (None, (), ()),
            ("1", (0, 0), (1, 1)), (1, "00", "11"), (1, (0, 0), (1, "1")), (0, (), ()), ((0,), (0,), (1,)),
        ):
            self.assertEqual(recipe_error(value), "form", value)

    def test_few(self):
        for value in (
            (0, (0,), (0,)), (1, (0, 0), (0, 0)), (3, (1, -1, 5, 0), (0, 0, 0, 0)), (40, (9,) * 41, (0,) * 41),
        ):
            self.assertEqual(recipe_error(value), "few", value)

    def test_form_before_few_before_row(self):
        self.assertEqual(recipe_error((1, (9, True), (0, 0))), "form")
        self.assertEqual(recipe_error((1, (9, 9), (0, 0))), "few")
        self.assertEqual(recipe_error((1, (9, 9), (0, -1))), ("row", 0))

    def test_first_row(self):
        for value, k in (
            ((2, (0, 3, 0), (0, 2, 0)), 1), ((2, (-1, 0, 0), (0, 2, 0)), 0), ((2, (0, 0, 0), (0, 3, 0)), 1),
            ((2, (0, 1, 2), (1, 2, 2)), 2), ((2, (1, 0, 0), (0, 2, 0)), 0), ((0, (0,), (2,)), 0),
            ((0, (2,), (1,)), 0), ((0, (0,), (-1,)), 0), ((2, (0, 0, 5), (0, -1, 5)), 1), ((1, (0, 1), (0, 2)), 1),
            ((40, (0,) * 41, (0,) * 20 + (comb(40, 20) + 1,) + (0,) * 20), 20),
        ):
            self.assertEqual(recipe_error(value), ("row", k), value)

    def test_any_value(self):
        for recipe in RECIPES:
            for value in list_changes(recipe):
                self.assertEqual(recipe_error(value), plain_error(value), value)
        for value in ANY:
            self.assertEqual(recipe_error(value), plain_error(value), value)


def plain_error(value):
    """Return what recipe_error has to return, by the words of the interface."""
    if type(value) is not tuple or len(value) != 3 or type(value[0]) is not int or not 0 <= value[0] <= 40:
        return "form"
    m, ds, es = value
    for part in (ds, es):
        if type(part) is not tuple or len(part) != m + 1 or not all(type(c) is int for c in part):
            return "form"
    if all(e == 0 for e in es):
        return "few"
    wrong = [k for k in range(m + 1) if not (0 <= ds[k] and ds[k] <= es[k] and es[k] <= comb(m, k))]
    return ("row", wrong[0]) if wrong else None


class Values(unittest.TestCase):

    def test_examples(self):
        self.assertEqual(recipe_probability((2, (0, 0, 1), (0, 2, 1))), ((0, 1), (2, -1)))
        self.assertEqual(recipe_expected_tosses(FAIR), ((1,), (0, 1, -1)))
        self.assertEqual(lengthen_recipe((1, (0, 1), (1, 1))), (2, (0, 1, 1), (1, 2, 1)))

    def some_recipes(self):
        generator = make_generator(602)
        return [*RECIPES, *[random_recipe(generator, k % 7) for k in range(35)]]

    def test_row_by_row(self):
        generator = make_generator(605)
        for recipe in self.some_recipes():
            probability, mean = recipe_probability(recipe), recipe_expected_tosses(recipe)
            for rational in (probability, mean):
                self.assertEqual(reduce_rational(*rational), rational)
            self.assertEqual(probability, recipe_probability(recipe=recipe))
            self.assertEqual(mean, recipe_expected_tosses(recipe=recipe))
            drawn = [Fraction(generator.randint(1, d - 1), d) for d in (7, 10 ** 3, 10 ** 9 - 1)]
            for p in (*POINTS, *drawn):
                yes, decided = row_sums(recipe, p)
                self.assertEqual(value_at(probability, p), yes / decided)
                self.assertEqual(value_at(mean, p), recipe[0] / decided)
            self.assertTrue(check_claim(("recipe", probability, recipe), ()))

    def test_no_tosses(self):
        self.assertEqual(recipe_probability((0, (0,), (1,))), ZERO)
        self.assertEqual(recipe_probability((0, (1,), (1,))), ONE)
        self.assertEqual(recipe_expected_tosses((0, (0,), (1,))), ZERO)
        self.assertEqual(recipe_expected_tosses((0, (1,), (1,))), ZERO)

    def test_lengthened(self):
        for recipe in self.some_recipes():
            longer = lengthen_recipe(recipe)
            m, ds, es = longer
            self.assertEqual(m, recipe[0] + 1)
            for form, old in ((ds, recipe[1]), (es, recipe[2])):
                self.assertIs(type(form), tuple)
                pad = (0, *old, 0)
                self.assertEqual(form, tuple(pad[k] + pad[k + 1] for k in range(m + 1)))
            self.assertIsNone(recipe_error(longer))
            self.assertEqual(recipe_probability(longer), recipe_probability(recipe))
            self.assertEqual(longer, lengthen_recipe(recipe=recipe))

    def test_forty_tosses(self):
        for recipe in RECIPES:
            probability = recipe_probability(recipe)
            while recipe[0] < 40:
                recipe = lengthen_recipe(recipe)
            self.assertIsNone(recipe_error(recipe))
            self.assertEqual(recipe_probability(recipe), probability)
            decided = sum(e * Fraction(1, 3) ** k * Fraction(2, 3) ** (40 - k) for k, e in enumerate(recipe[2]))
            self.assertEqual(value_at(recipe_expected_tosses(recipe), Fraction(1, 3)), 40 / decided)

    def test_recipes_of_choices(self):
        generator = make_generator(603)
        machines = [*MACHINES, *[random_machine(generator, generator.randint(1, 9)) for _ in range(30)]]
        for machine in machines:
            for answer in (0, 1, 2):
                recipe = recipe_from_choices(machine, answer)
                self.assertIsNone(recipe_error(recipe))
                self.assertEqual(recipe_probability(recipe), answer_probability(machine, answer)[0])
            recipe = recipe_from_choices(machine, -1)
            self.assertIsNone(recipe_error(recipe))
            self.assertEqual(recipe_probability(recipe), nontermination_probability(machine)[0])


def plain_follow(recipe, tape):
    """Follow the recipe on the tape, by the words of promise 16."""
    m = recipe[0]
    rounds = 0
    while True:
        row = tape[:m]
        if len(row) < m:
            return ("going", rounds)
        rounds += 1
        answer = plain_decide(recipe, row)
        if answer != "again":
            return (answer, rounds)
        tape = tape[m:]


class Runs(unittest.TestCase):

    def test_examples(self):
        self.assertEqual(run_recipe(FAIR, "HHHT"), ("yes", 2))
        self.assertEqual(run_machine(machine_from_recipe(FAIR), "HHTH"), ("ended", 0, 4))

    def test_all_tapes_of_some_rounds(self):
        for recipe in RECIPES:
            for size in range(3 * recipe[0] + 2 if recipe[0] < 4 else 11):
                for tape in all_rows(size):
                    result = run_recipe(recipe, tape)
                    self.assertEqual(result, plain_follow(recipe, tape), (recipe, tape))
                    self.assertEqual(result, run_recipe(tape=tape, recipe=recipe))

    def test_stops_within_a_round(self):
        self.assertEqual(run_recipe(FAIR, ""), ("going", 0))
        self.assertEqual(run_recipe(FAIR, "H"), ("going", 0))
        self.assertEqual(run_recipe(FAIR, "HHTTH"), ("going", 2))
        self.assertEqual(run_recipe(FAIR, "HHTTTH"), ("no", 3))
        self.assertEqual(run_recipe(FAIR, "HHTTTHHT"), ("no", 3))
        self.assertEqual(run_recipe(FAIR, "HH" * 3000 + "HT"), ("yes", 3001))

    def test_no_tosses(self):
        for tape in ("", "H", "TTH"):
            self.assertEqual(run_recipe((0, (0,), (1,)), tape), ("no", 1))
            self.assertEqual(run_recipe((0, (1,), (1,)), tape), ("yes", 1))

    def test_forty_tosses(self):
        recipe = (40, (0,) * 20 + (1,) + (0,) * 20, (0,) * 20 + (2,) + (0,) * 20)
        first, second = "H" * 20 + "T" * 20, "H" * 19 + "TH" + "T" * 19
        self.assertEqual(run_recipe(recipe, first), ("yes", 1))
        self.assertEqual(run_recipe(recipe, "H" * 40 + second), ("no", 2))
        self.assertEqual(run_recipe(recipe, first[::-1] + first[:-1]), ("going", 1))


class MachinesOfRecipes(unittest.TestCase):

    def some_recipes(self):
        generator = make_generator(604)
        return [*RECIPES, *[random_recipe(generator, k % 6) for k in range(24)]]

    def test_against_the_recipe(self):
        for recipe in self.some_recipes():
            machine = machine_from_recipe(recipe)
            self.assertIsNone(machine_error(machine))
            self.assertEqual(machine, machine_from_recipe(recipe=recipe))
            m = recipe[0]
            for size in range(2 * m + 1):
                for tape in all_rows(size):
                    word, rounds = run_recipe(recipe, tape)
                    result = run_machine(machine, tape)
                    if word == "going":
                        self.assertEqual(result[0], "going")
                    else:
                        self.assertEqual(result, ("ended", 1 if word == "yes" else 0, rounds * m))

    def test_toss_states(self):
        for recipe in self.some_recipes():
            machine = machine_from_recipe(recipe)
            self.assertLessEqual(sum(state[0] == "toss" for state in machine), 2 ** recipe[0] - 1)
        for answer, d in ((0, 0), (1, 1)):
            machine = machine_from_recipe((0, (d,), (1,)))
            self.assertEqual(machine[0], ("end", answer))

    def test_probabilities(self):
        for recipe in self.some_recipes():
            machine = machine_from_recipe(recipe)
            if recipe[0] <= 3:
                self.assertEqual(answer_probability(machine, 1)[0], recipe_probability(recipe))
                self.assertEqual(expected_tosses(machine)[0], recipe_expected_tosses(recipe))
            elif recipe[0] == 5:
                # In one round, by counting the tapes.
                stopped = count_tapes(machine, 5)[0]
                yes = stopped[1][5] if 1 in stopped else (0,) * 6
                self.assertEqual(yes, recipe[1])

    def test_limit(self):
        for m in (6, 7, 40):
            with self.assertRaises(LimitExceeded) as held:
                machine_from_recipe((m, (0,) * (m + 1), (1,) * (m + 1)))
            self.assertEqual(held.exception.limit, 5)


if __name__ == "__main__":
    unittest.main()
