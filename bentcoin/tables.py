"""Tables of a machine: one rational function for each state, reduced or not, and their rules."""

from bentcoin.kinds import is_rational_pair, is_tuple
from bentcoin.machines import end_distances, is_toss
from bentcoin.polynomials import add_polynomials, multiply_polynomials

ZERO = ((), (1,))
ONE = ((1,), (1,))

# What heads and tails count for, and both together: for every p at once.
EVERY_P = ((0, 1), (1, -1), (1,))


def coin_at(p):
    """Return what heads and tails count for, and both together, at an interior fraction."""
    return ((p[0],), (p[1] - p[0],), (p[1],))


def as_pair(fraction):
    """Return the fraction as a constant rational function."""
    return ((fraction[0],) if fraction[0] != 0 else (), (fraction[1],))


def is_table(value, machine):
    """Tell whether any value is a tuple with one rational function for each state."""
    return is_tuple(value, len(machine)) and all([is_rational_pair(pair) for pair in value])


def same_rational(one, other):
    """Tell whether two pairs, reduced or not, are the same rational function."""
    return multiply_polynomials(one[0], other[1]) == multiply_polynomials(other[0], one[1])


def add_pairs(one, other):
    """Return a pair for the sum of two pairs, not reduced."""
    if one[1] == other[1]:
        return (add_polynomials(one[0], other[0]), one[1])
    left = multiply_polynomials(one[0], other[1])
    right = multiply_polynomials(other[0], one[1])
    return (add_polynomials(left, right), multiply_polynomials(one[1], other[1]))


def mix_pairs(heads, tails, coin):
    """Return a pair for the first value if the coin shows heads, the second if it shows tails."""
    first = (multiply_polynomials(coin[0], heads[0]), heads[1])
    second = (multiply_polynomials(coin[1], tails[0]), tails[1])
    upper, lower = add_pairs(first, second)
    return (upper, multiply_polynomials(coin[2], lower))


def chance_dues(machine, answer):
    """Return what is due at each state for the chance of this answer; None where it is a mean.

    A mean is due at the toss states from which an end is reachable.
    """
    dues = []
    for index, distance in enumerate(end_distances(machine)):
        if distance is None:
            dues.append(ZERO)
        elif is_toss(machine[index]):
            dues.append(None)
        else:
            dues.append(ONE if machine[index][1] == answer else ZERO)
    return dues


def never_dues(machine):
    """Return what is due at each state for the chance of running forever; None where it is a mean."""
    dues = []
    for index, distance in enumerate(end_distances(machine)):
        if distance is None:
            dues.append(ONE)
        else:
            dues.append(None if is_toss(machine[index]) else ZERO)
    return dues


def follows_dues(machine, table, dues, coin):
    """Tell whether each entry of the table is what is due, or the mean of its successors'."""
    for index, due in enumerate(dues):
        if due is None:
            due = mix_pairs(table[machine[index][1]], table[machine[index][2]], coin)
        if not same_rational(table[index], due):
            return False
    return True


def is_chance_table(value, machine, answer):
    """Tell whether any value is a table of the chances of the answer."""
    return is_table(value, machine) and follows_dues(machine, value, chance_dues(machine, answer), EVERY_P)


def is_never_table(value, machine):
    """Tell whether any value is a table of the chances of running forever."""
    return is_table(value, machine) and follows_dues(machine, value, never_dues(machine), EVERY_P)


def follows_mean(machine, table, reached):
    """Tell whether the entries of the reached states are expected numbers of tosses."""
    for index in reached:
        due = ZERO
        if is_toss(machine[index]):
            mean = mix_pairs(table[machine[index][1]], table[machine[index][2]], EVERY_P)
            due = add_pairs(ONE, mean)
        if not same_rational(table[index], due):
            return False
    return True
