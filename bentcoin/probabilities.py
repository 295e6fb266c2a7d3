"""Probabilities of answers and of running forever, and the expected number of tosses."""

from bentcoin.errors import LimitExceeded, MayNotTerminate
from bentcoin.machines import check_termination, count_tosses, is_toss, reachable_states
from bentcoin.systems import solve_tables
from bentcoin.tables import ZERO, chance_dues, never_dues

MAX_TOSS_STATES = 12


def check_size(machine):
    """Raise LimitExceeded if too many states toss, reachable or not."""
    if count_tosses(machine) > MAX_TOSS_STATES:
        raise LimitExceeded(MAX_TOSS_STATES)


def answer_probability(machine, answer):
    """Return the probability of the answer, and the certificate for it."""
    check_size(machine)
    table = chance_tables(machine, [answer])[0]
    return (table[0], ("table", table))


def chance_tables(machine, answers):
    """Return the list of the tables of these answers, at least one."""
    return solve_tables(machine, [chance_dues(machine, answer) for answer in answers], ())


def nontermination_probability(machine):
    """Return the probability of running forever, and the certificate for it."""
    check_size(machine)
    table = solve_tables(machine, [never_dues(machine)], ())[0]
    return (table[0], ("table", table))


def expected_tosses(machine):
    """Return the expected number of tosses, and the certificate for it."""
    check_size(machine)
    ranks = ranks_of(machine)
    reached = reachable_states(machine)
    dues = [None if k in reached and is_toss(state) else ZERO for k, state in enumerate(machine)]
    table = solve_tables(machine, [dues], (1,))[0]
    return (table[0], ("table", table, ranks))


def ranks_of(machine):
    """Return the ranks of an "ends" certificate; raise MayNotTerminate if there are none."""
    result = check_termination(machine)
    if result[0] == "trap":
        raise MayNotTerminate((result[1], result[2]))
    return result[1]
