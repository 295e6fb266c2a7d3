"""Whether two machines have the same probability for each answer."""

from math import gcd

from bentcoin.machines import list_answers
from bentcoin.polynomials import evaluate_polynomial
from bentcoin.probabilities import chance_tables, check_size
from bentcoin.rationals import evaluate_rational, subtract_rationals


def compare_machines(one, other):
    """Return ("alike", certificate) or ("parted", p, answer, certificate)."""
    check_size(one)
    check_size(other)
    answers = list_answers((*one, *other))
    if answers == []:
        return ("alike", ("tables", ()))
    first = chance_tables(one, answers)
    second = chance_tables(other, answers)
    for at, answer in enumerate(answers):
        if first[at][0] != second[at][0]:
            p = first_difference(first[at][0], second[at][0])
            return ("parted", p, answer, ("worths", values_at(first[at], p), values_at(second[at], p)))
    rows = [(answer, first[at], second[at]) for at, answer in enumerate(answers)]
    return ("alike", ("tables", tuple(rows)))


def values_at(table, p):
    """Return the tuple of the values of a table at p."""
    return tuple([evaluate_rational(rational, p) for rational in table])


def first_difference(one, other):
    """Return the first interior fraction at which two probabilities that are not equal differ.

    The first is the one of the smallest denominator, and then of the smallest numerator.
    """
    difference = subtract_rationals(one, other)[0]
    d = 2
    while True:
        for n in range(1, d):
            if gcd(n, d) == 1 and evaluate_polynomial(difference, (n, d))[0] != 0:
                return (n, d)
        d += 1
