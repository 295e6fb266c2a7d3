"""The checker: whether a certificate, whoever supplies it, shows a claim."""

from bentcoin.covers import is_cover, is_root
from bentcoin.forms import from_form
from bentcoin.kinds import begins_with, is_fraction, is_integer, is_interior, is_tuple
from bentcoin.limits import shows_dear
from bentcoin.machines import is_toss, list_answers, next_state, reachable_states
from bentcoin.polynomials import evaluate_polynomial
from bentcoin.rationals import evaluate_rational, named_part
from bentcoin.tables import ONE, ZERO, as_pair, chance_dues, coin_at, follows_dues, follows_mean
from bentcoin.tables import is_chance_table, is_never_table, is_table, same_rational


def check_stays(claim, certificate):
    """Check ("stays", q) by covers of the numerator and of the rest."""
    if not begins_with(certificate, "covers", 3):
        return False
    upper, rest = named_part(claim[1], "upper"), named_part(claim[1], "rest")
    return is_cover(upper, certificate[1]) and is_cover(rest, certificate[2])


def check_none(claim, certificate):
    """Check ("none", q) by a value that no probability has, or by a root."""
    if begins_with(certificate, "beyond", 3):
        return check_beyond(claim[1], certificate[1], certificate[2])
    if not begins_with(certificate, "root", 5) or certificate[1] not in ("upper", "lower", "rest"):
        return False
    polynomial = named_part(claim[1], certificate[1])
    # Each polynomial divides (), but a constant q without a numerator or a rest is a probability.
    return polynomial != () and is_root(polynomial, certificate[2], certificate[3], certificate[4])


def check_beyond(q, p, value):
    """Tell whether q, not the constant 0 or 1, has the value, which is not interior, at p."""
    if q in (ZERO, ONE) or not is_interior(p) or not is_fraction(value) or is_interior(value):
        return False
    return evaluate_polynomial(q[1], p)[0] != 0 and evaluate_rational(q, p) == value


def check_recipe(claim, certificate):
    """Check ("recipe", q, recipe), which needs nothing but the forms of the recipe."""
    _, ds, es = claim[2]
    return certificate == () and same_rational(claim[1], (from_form(ds), from_form(es)))


def check_dear(claim, certificate):
    """Check ("dear", q, m) by what no recipe of m tosses can have."""
    return shows_dear(claim[1], claim[2], certificate)


def check_ends(claim, certificate):
    """Check ("ends", machine) by ranks that lead to an end."""
    return begins_with(certificate, "ranks", 2) and is_ranking(certificate[1], claim[1])


def is_ranking(value, machine):
    """Tell whether any value has a rank for each reachable state, from which some toss leads down."""
    if not is_tuple(value, len(machine)):
        return False
    reached = reachable_states(machine)
    for index, rank in enumerate(value):
        if index not in reached and rank is not None:
            return False
        if index in reached and not (is_integer(rank) and is_rank(value, machine[index], rank)):
            return False
    return True


def is_rank(ranks, state, rank):
    """Tell whether an integer is a rank of a reachable state."""
    if is_toss(state):
        return is_above(rank, ranks[state[1]]) or is_above(rank, ranks[state[2]])
    return state[0] == "end" and rank == 0


def is_above(rank, other):
    """Tell whether an integer is greater than any value, which is to be an integer."""
    return is_integer(other) and rank > other


def check_trapped(claim, certificate):
    """Check ("trapped", machine) by states without a way out, and a tape to one of them."""
    if not begins_with(certificate, "trap", 3):
        return False
    _, tape, states = certificate
    return is_trap(states, claim[1]) and leads_into(claim[1], tape, states)


def is_trap(value, machine):
    """Tell whether any value is an ascending tuple of states, none an end, that no toss leaves."""
    if not isinstance(value, tuple) or value == ():
        return False
    inside = [index for index in range(len(machine)) if machine[index][0] != "end"]
    if not all([is_integer(index) for index in value]) or list(value) != sorted(value):
        return False
    for at, index in enumerate(value):
        if index not in inside or at > 0 and value[at - 1] == index:
            return False
        if is_toss(machine[index]) and not (machine[index][1] in value and machine[index][2] in value):
            return False
    return True


def leads_into(machine, tape, states):
    """Tell whether any value is a tape that leads, toss by toss, from state 0 into the states."""
    if not isinstance(tape, str):
        return False
    index = 0
    for side in tape:
        if side not in ("H", "T") or not is_toss(machine[index]):
            return False
        index = next_state(machine, index, side)
    return index in states


def check_chance(claim, certificate):
    """Check ("chance", machine, answer, q) by a table."""
    _, machine, answer, q = claim
    if not begins_with(certificate, "table", 2):
        return False
    table = certificate[1]
    return is_chance_table(table, machine, answer) and same_rational(table[0], q)


def check_never(claim, certificate):
    """Check ("never", machine, q) by a table."""
    _, machine, q = claim
    if not begins_with(certificate, "table", 2):
        return False
    table = certificate[1]
    return is_never_table(table, machine) and same_rational(table[0], q)


def check_mean(claim, certificate):
    """Check ("mean", machine, q) by a table, and by ranks: the machine surely ends."""
    _, machine, q = claim
    if not begins_with(certificate, "table", 3):
        return False
    _, table, ranks = certificate
    if not is_table(table, machine) or not is_ranking(ranks, machine):
        return False
    return follows_mean(machine, table, reachable_states(machine)) and same_rational(table[0], q)


def check_alike(claim, certificate):
    """Check ("alike", one, other) by a pair of tables for each answer."""
    _, one, other = claim
    answers = list_answers((*one, *other))
    if not begins_with(certificate, "tables", 2) or not is_tuple(certificate[1], len(answers)):
        return False
    for answer, row in zip(answers, certificate[1]):
        if not is_row(row, answer, one, other):
            return False
    return True


def is_row(row, answer, one, other):
    """Tell whether any value is the answer with tables of both machines that agree in state 0."""
    if not is_tuple(row, 3) or not is_integer(row[0]) or row[0] != answer:
        return False
    if not is_chance_table(row[1], one, answer) or not is_chance_table(row[2], other, answer):
        return False
    return same_rational(row[1][0], row[2][0])


def check_parted(claim, certificate):
    """Check ("parted", one, other, p, answer) by the chances of the answer at p."""
    _, one, other, p, answer = claim
    if not begins_with(certificate, "worths", 3):
        return False
    _, first, second = certificate
    if not is_worths(first, one, p, answer) or not is_worths(second, other, p, answer):
        return False
    return first[0] != second[0]


def is_worths(value, machine, p, answer):
    """Tell whether any value is a tuple of fractions, the chances of the answer at p from each state."""
    if not is_tuple(value, len(machine)) or not all([is_fraction(worth) for worth in value]):
        return False
    table = [as_pair(worth) for worth in value]
    return follows_dues(machine, table, chance_dues(machine, answer), coin_at(p))


CHECKS = {
    "stays": check_stays,
    "none": check_none,
    "recipe": check_recipe,
    "dear": check_dear,
    "ends": check_ends,
    "trapped": check_trapped,
    "chance": check_chance,
    "never": check_never,
    "mean": check_mean,
    "alike": check_alike,
    "parted": check_parted,
}


def check_claim(claim, certificate):
    """Tell whether the certificate, any value, shows the claim, which is well formed."""
    check = CHECKS[claim[0]]
    return check(claim, certificate)
