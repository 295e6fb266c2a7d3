"""Chains of coins, each of which tosses the next, the last one the biased coin."""

from bentcoin.coins import coin_answers, coin_chances, coin_mean, coin_never
from bentcoin.equivalence import first_difference
from bentcoin.rationals import compose_rationals, multiply_rationals, rational_degree
from bentcoin.tables import ONE, ZERO

# The probability of heads of the biased coin.
BIASED = ((0, 1), (1,))


def compose_chain(rational, chain):
    """Return a rational function of the p of the first coin of a chain, as one of the biased coin's."""
    # A constant does not depend on the coins, which may be too many to be worked out.
    if rational_degree(rational) == 0:
        return rational
    return compose_rationals(rational, chain_heads(chain))


def chain_heads(chain):
    """Return the probability of heads of the first coin of a chain that may have no coin."""
    p = BIASED
    for coin in reversed(chain):
        p = compose_rationals(coin_chances(coin, [1])[0], p)
    return p


def chain_chances(chain, answers):
    """Return the list of the probabilities of these answers, at least one, of the first coin."""
    chances = coin_chances(chain[0], answers)
    if max([rational_degree(chance) for chance in chances]) == 0:
        return chances
    p = chain_heads(chain[1:])
    return [compose_rationals(chance, p) for chance in chances]


def chain_never(chain):
    """Return the probability that the first coin of a chain runs forever."""
    return compose_chain(coin_never(chain[0]), chain[1:])


def chain_mean(chain):
    """Return the expected number of tosses of the biased coin that the first coin of a chain takes.

    Raise MayNotTerminate if the first coin does not surely end.
    """
    first = coin_mean(chain[0])
    if first == ZERO:
        return ZERO
    p = BIASED
    total = ONE
    for coin in reversed(chain[1:]):
        total = multiply_rationals(total, compose_rationals(coin_mean(coin), p))
        p = compose_rationals(coin_chances(coin, [1])[0], p)
    return multiply_rationals(total, compose_rationals(first, p))


def compare_chains(one, other):
    """Return None if the first coins of two chains are alike, else (p, answer) where they differ first."""
    answers = sorted(set(coin_answers(one[0]) + coin_answers(other[0])))
    if answers == []:
        return None
    for answer, first, second in zip(answers, chain_chances(one, answers), chain_chances(other, answers)):
        if first != second:
            return (first_difference(first, second), answer)
    return None
