"""Recipes: rounds of m tosses, whose rows say yes, no, or that another round is due."""

from math import comb

from bentcoin.building import build_machine
from bentcoin.errors import LimitExceeded
from bentcoin.forms import from_form, raise_degree
from bentcoin.kinds import is_index, is_integer, is_tuple
from bentcoin.rationals import reduce_rational

MAX_RECIPE_TOSSES = 40

# Machines are made of recipes of at most so many tosses.
MAX_MACHINE_TOSSES = 5


def rank_in_row(tape):
    """Return the number of rows as long and with as many heads that precede the row, heads first."""
    heads = tape.count("H")
    rank = 0
    for at, side in enumerate(tape):
        if side == "H":
            heads -= 1
        elif heads > 0:
            # The rows that are the same up to here, and go on with H.
            rank += comb(len(tape) - at - 1, heads - 1)
    return rank


def recipe_error(value):
    """Return None if any value is a recipe, else "form", "few" or ("row", k)."""
    if not is_tuple(value, 3) or not is_index(value[0], MAX_RECIPE_TOSSES + 1):
        return "form"
    tosses, ds, es = value
    if not is_row_of_integers(ds, tosses + 1) or not is_row_of_integers(es, tosses + 1):
        return "form"
    if not any(es):
        return "few"
    k = find_wrong_row(tosses, ds, es)
    return None if k is None else ("row", k)


def find_wrong_row(tosses, ds, es):
    """Return the first number of heads whose entries no recipe of so many tosses has, or None."""
    for k in range(tosses + 1):
        if not 0 <= ds[k] <= es[k] <= comb(tosses, k):
            return k
    return None


def is_row_of_integers(value, size):
    """Tell whether any value is a tuple of this many integers."""
    return is_tuple(value, size) and all([is_integer(part) for part in value])


def recipe_probability(recipe):
    """Return the probability of yes, a rational function."""
    _, ds, es = recipe
    return reduce_rational(from_form(ds), from_form(es))


def recipe_expected_tosses(recipe):
    """Return the expected number of tosses, a rational function."""
    tosses, _, es = recipe
    return reduce_rational((tosses,) if tosses > 0 else (), from_form(es))


def lengthen_recipe(recipe):
    """Return the recipe with one more toss and the same probability."""
    tosses, ds, es = recipe
    return (tosses + 1, raise_degree(ds), raise_degree(es))


def decide_row(recipe, row):
    """Return "yes", "no", or None where the row asks for another round."""
    _, ds, es = recipe
    heads = row.count("H")
    rank = rank_in_row(row)
    if rank < ds[heads]:
        return "yes"
    return "no" if rank < es[heads] else None


def run_recipe(recipe, tape):
    """Return ("yes", rounds), ("no", rounds), or ("going", rounds) where the tape runs out."""
    tosses = recipe[0]
    rounds = 0
    while (rounds + 1) * tosses <= len(tape):
        answer = decide_row(recipe, tape[rounds * tosses:(rounds + 1) * tosses])
        rounds += 1
        if answer is not None:
            return (answer, rounds)
    return ("going", rounds)


def machine_from_recipe(recipe):
    """Return a machine that makes all tosses of each round, and ends with 1 for yes, 0 for no."""
    if recipe[0] > MAX_MACHINE_TOSSES:
        raise LimitExceeded(MAX_MACHINE_TOSSES)
    return build_machine(row_position(recipe, ""), lambda position, side: row_position(recipe, position[1] + side))


def row_position(recipe, row):
    """Return where a round is after the tosses of a row that may not be complete."""
    if len(row) < recipe[0]:
        return ("row", row)
    answer = decide_row(recipe, row)
    if answer is None:
        return ("row", "")
    return ("end", 1 if answer == "yes" else 0)
