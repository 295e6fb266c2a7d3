"""Machines for the tests, and slow, plain ways to compute what the package computes of them."""

from fractions import Fraction

from bentcoin.rationals import (
    add_rationals, multiply_rationals, reduce_rational, subtract_rationals,
)

COIN = (("toss", 1, 2), ("end", 1), ("end", 0))
FAIR = (("toss", 1, 2), ("toss", 0, 3), ("toss", 4, 0), ("end", 1), ("end", 0))
ENDED = (("end", 7),)
NEVER = (("never",),)
LOOP = (("toss", 0, 0),)
HALF_TRAP = (("toss", 1, 2), ("end", 1), ("never",))
CYCLE_TRAP = (("toss", 1, 2), ("end", 3), ("toss", 3, 2), ("toss", 2, 4), ("never",))
# State 3 and the states after it are not reachable; 4 is a trap, 5 an end that 3 tosses for.
UNREACHED = (("toss", 0, 1), ("toss", 2, 0), ("end", 4), ("toss", 5, 4), ("toss", 4, 4), ("end", 9))
# All answers and both kinds of traps, reachable.
MIXED = (
    ("toss", 1, 2), ("toss", 0, 3), ("toss", 4, 5), ("end", 1), ("toss", 6, 7), ("end", 0),
    ("never",), ("toss", 8, 0), ("toss", 8, 8),
)
TWICE = (("toss", 1, 1), ("toss", 2, 2), ("end", 5))
MACHINES = (COIN, FAIR, ENDED, NEVER, LOOP, HALF_TRAP, CYCLE_TRAP, UNREACHED, MIXED, TWICE)

ZERO = ((), (1,))
ONE = ((1,), (1,))
P = ((0, 1), (1,))
REST = ((1, -1), (1,))


def make_chain(length):
    """Return a machine that tosses length - 1 times and then ends."""
    return (*[("toss", k + 1, k + 1) for k in range(length - 1)], ("end", 3))


def random_machine(generator, size, answers=3):
    """Return a machine of this many states: mostly tosses, some ends, few "never" states."""
    states = []
    for _ in range(size):
        kind = generator.random()
        if kind < 0.6:
            states.append(("toss", generator.randrange(size), generator.randrange(size)))
        elif kind < 0.93:
            states.append(("end", generator.randrange(answers)))
        else:
            states.append(("never",))
    return tuple(states)


def random_tape(generator, length):
    return "".join(generator.choice("HT") for _ in range(length))


def renumber(machine, order):
    """Return the machine with its state k at order[k]; state 0 must stay."""
    states = [None] * len(machine)
    for k, state in enumerate(machine):
        states[order[k]] = ("toss", order[state[1]], order[state[2]]) if state[0] == "toss" else state
    return tuple(states)


def plain_run(machine, tape):
    """Run the machine by the words of promise 10."""
    at, used = 0, 0
    while True:
        if machine[at][0] == "end":
            return ("ended", machine[at][1], used)
        if machine[at][0] == "never":
            return ("never", used)
        if used == len(tape):
            return ("going", at)
        at = machine[at][1 if tape[used] == "H" else 2]
        used += 1


def plain_reachable(machine):
    """Return the set of reachable states, as the least set that holds 0 and its successors."""
    found = {0}
    while True:
        more = {x for k in found if machine[k][0] == "toss" for x in machine[k][1:]} | found
        if more == found:
            return found
        found = more


def plain_distance(machine, at):
    """Return the length of a shortest sequence of tosses from a state to an end, or None."""
    layer = {at}
    for distance in range(len(machine) + 1):
        if any(machine[k][0] == "end" for k in layer):
            return distance
        layer = {x for k in layer if machine[k][0] == "toss" for x in machine[k][1:]}
    return None


def solve_table(machine, known, gain):
    """Return the table that is known[k] at k, and gain plus the mean of both successors elsewhere.

    Solved by elimination in rational functions, one state after the other.
    """
    rows = {}
    for k, state in enumerate(machine):
        if k not in known:
            row = {k: ONE, "sum": gain}
            for successor, weight in ((state[1], P), (state[2], REST)):
                row = add_term(row, successor, weight, known)
            rows[k] = row
    for k in list(rows):
        pivot = rows[k]
        scale = (pivot[k][1], pivot[k][0])
        pivot = {x: multiply_rationals(c, reduce_rational(*scale)) for x, c in pivot.items()}
        rows[k] = pivot
        for other in rows:
            if other != k and k in rows[other]:
                rows[other] = eliminate(rows[other], pivot, k)
    return tuple(known[k] if k in known else rows[k]["sum"] for k in range(len(machine)))


def add_term(row, successor, weight, known):
    row = dict(row)
    if successor in known:
        row["sum"] = add_rationals(row["sum"], multiply_rationals(weight, known[successor]))
    else:
        row[successor] = subtract_rationals(row.get(successor, ZERO), weight)
    return row


def eliminate(row, pivot, k):
    """Return the row minus the pivot row so that its entry at k disappears."""
    factor = row[k]
    out = {}
    for x in {**row, **pivot}:
        part = multiply_rationals(factor, pivot.get(x, ZERO))
        value = subtract_rationals(row.get(x, ZERO), part)
        if x == "sum" or value != ZERO:
            out[x] = value
    return out


def plain_chance(machine, answer):
    """Return the table of a "chance" certificate."""
    known = {}
    for k, state in enumerate(machine):
        if plain_distance(machine, k) is None:
            known[k] = ZERO
        elif state[0] == "end":
            known[k] = ONE if state[1] == answer else ZERO
    return solve_table(machine, known, ZERO)


def plain_never(machine):
    """Return the table of a "never" certificate."""
    known = {}
    for k, state in enumerate(machine):
        if plain_distance(machine, k) is None:
            known[k] = ONE
        elif state[0] == "end":
            known[k] = ZERO
    return solve_table(machine, known, ZERO)


def plain_mean(machine):
    """Return the table of a "mean" certificate of a machine that surely ends."""
    known = {}
    for k, state in enumerate(machine):
        if state[0] == "end" or plain_distance(machine, k) is None:
            known[k] = ZERO
    return solve_table(machine, known, ONE)


def surely_ends(machine):
    return all(plain_distance(machine, k) is not None for k in plain_reachable(machine))


def plain_ranks(machine):
    """Return the ranks of an "ends" certificate of a machine that surely ends."""
    reached = plain_reachable(machine)
    return tuple(plain_distance(machine, k) if k in reached else None for k in range(len(machine)))


def plain_worths(machine, answer, p):
    """Return the tuple of a "worths" certificate."""
    values = []
    for upper, lower in plain_chance(machine, answer):
        value = at_point(upper, p) / at_point(lower, p)
        values.append((value.numerator, value.denominator))
    return tuple(values)


def at_point(polynomial, p):
    return sum((c * Fraction(*p) ** k for k, c in enumerate(polynomial)), Fraction(0))


def make_decision(answers):
    """Return a machine that ends with the answer of the row of tosses, rows in string order.

    Equal rows of states are made once; a state whose successors are one state is left out.
    """
    states, numbers = [], {}

    def build(part):
        if len(part) == 1:
            state = ("end", part[0])
        else:
            half = len(part) // 2
            heads, tails = build(part[:half]), build(part[half:])
            if heads == tails:
                return heads
            state = ("toss", heads, tails)
        if state not in numbers:
            numbers[state] = len(states)
            states.append(state)
        return numbers[state]

    # The first state has to be the one built last.
    last = build(answers)
    order = [(last - k) if k <= last else k for k in range(len(states))]
    return renumber(tuple(states), order)
