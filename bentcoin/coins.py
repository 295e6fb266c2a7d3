"""Coins of a registry: machines, programs and recipes, each with the coin that it tosses."""

from bentcoin.errors import InvalidDefinition
from bentcoin.execution import compile_program
from bentcoin.machines import count_tosses, list_answers, machine_error
from bentcoin.probabilities import chance_tables, expected_tosses, nontermination_probability
from bentcoin.programs import program_error
from bentcoin.rationals import subtract_rationals
from bentcoin.recipes import machine_from_recipe, recipe_error, recipe_expected_tosses, recipe_probability
from bentcoin.tables import ONE, ZERO


class Coin:
    """A value of a kind, the machine that it behaves as, and the name of the coin that it tosses."""

    def __init__(self, kind, value, machine, by):
        self.kind = kind
        self.value = value
        self.machine = machine
        self.by = by


def make_coin(kind, value, by):
    """Return the coin of any value; raise an error if it is not valid or makes no machine."""
    reason = value_error(kind, value)
    if reason is not None:
        raise InvalidDefinition(reason)
    return Coin(kind, value, value_machine(kind, value), by)


def value_error(kind, value):
    """Return None if any value is of this kind, else what is wrong."""
    if kind == "machine":
        return machine_error(value)
    return program_error(value) if kind == "program" else recipe_error(value)


def value_machine(kind, value):
    """Return the machine that a value of this kind behaves as."""
    if kind == "machine":
        return value
    return compile_program(value) if kind == "program" else machine_from_recipe(value)


def coin_size(coin):
    """Return the number of toss states or of positions at a toss; for a recipe that of its tosses."""
    return coin.value[0] if coin.kind == "recipe" else count_tosses(coin.machine)


def coin_chances(coin, answers):
    """Return the list of the probabilities of these answers, at least one, for the tossed coin's p."""
    # The machine of a recipe may have far more toss states than the recipe has tosses.
    if coin.kind == "recipe":
        return [recipe_chance(coin.value, answer) for answer in answers]
    return [table[0] for table in chance_tables(coin.machine, answers)]


def recipe_chance(recipe, answer):
    """Return the probability that a recipe's machine ends with this answer: 1 for yes, 0 for no."""
    if answer not in (0, 1):
        return ZERO
    chance = recipe_probability(recipe)
    return chance if answer == 1 else subtract_rationals(ONE, chance)


def coin_never(coin):
    """Return the probability of running forever, for the tossed coin's p."""
    return ZERO if coin.kind == "recipe" else nontermination_probability(coin.machine)[0]


def coin_mean(coin):
    """Return the expected number of tosses of the tossed coin, for its p."""
    if coin.kind == "recipe":
        return recipe_expected_tosses(coin.value)
    return expected_tosses(coin.machine)[0]


def coin_answers(coin):
    """Return the list of all answers that can have a probability other than 0."""
    return list_answers(coin.machine)
