"""Values for the tests, and slow, plain ways to compute what the package computes."""

from fractions import Fraction
from math import gcd
from random import Random

from bentcoin.polynomials import multiply_polynomials

POINTS = ((0, 1), (1, 1), (1, 2), (2, 3), (-3, 7), (-5, 1), (9, 4), (123456789, 987654321 - 2))


def make_generator(number):
    """Return a generator that gives the same values in every run."""
    return Random(number)


def trim(coefficients):
    kept = list(coefficients)
    while kept and kept[-1] == 0:
        kept.pop()
    return tuple(kept)


def random_polynomial(generator, size, digits):
    """Return a polynomial of exactly this many coefficients of at most so many digits."""
    limit = 10 ** digits - 1
    if size == 0:
        return ()
    low = [generator.choice((0, generator.randint(-limit, limit))) for _ in range(size - 1)]
    return (*low, generator.choice((-1, 1)) * generator.randint(1, limit))


def random_rational(generator, size, digits):
    """Return a pair of polynomials in lowest terms, found by plain_reduce."""
    upper = random_polynomial(generator, generator.randint(0, size), digits)
    lower = random_polynomial(generator, generator.randint(1, size), digits)
    return plain_reduce(upper, lower)


def power(polynomial, exponent):
    total = (1,)
    for _ in range(exponent):
        total = multiply_polynomials(total, polynomial)
    return total


def plain_value(polynomial, p):
    """Return the value at p as a Fraction, or at a Fraction."""
    at = Fraction(*p) if isinstance(p, tuple) else p
    return sum((c * at ** k for k, c in enumerate(polynomial)), Fraction(0))


def as_fraction(value):
    """Return the pair (n, d) of a Fraction."""
    return (value.numerator, value.denominator)


def plain_product(one, other):
    total = [0] * (len(one) + len(other))
    for at, a in enumerate(one):
        for k, b in enumerate(other):
            total[at + k] += a * b
    return trim(total)


def plain_divide(one, other):
    """Return quotient and remainder over the Fractions, as lists."""
    rest = [Fraction(c) for c in one]
    quotient = [Fraction(0)] * max(0, len(one) - len(other) + 1)
    for at in range(len(quotient) - 1, -1, -1):
        quotient[at] = rest[at + len(other) - 1] / other[-1]
        for k, c in enumerate(other):
            rest[at + k] -= quotient[at] * c
    return quotient, list(trim(rest))


def plain_common_divisor(one, other):
    """Return the monic common divisor over the Fractions, by Euclid's algorithm."""
    first, second = list(one), list(other)
    while second:
        first, second = second, plain_divide(first, second)[1]
    return [Fraction(c) / first[-1] for c in first]


def plain_reduce(upper, lower):
    """Return the pair in lowest terms, by Euclid's algorithm over the Fractions."""
    if not upper:
        return ((), (1,))
    divisor = plain_common_divisor(upper, lower)
    parts = [plain_divide(upper, divisor)[0], plain_divide(lower, divisor)[0]]
    scale = 1
    for c in parts[0] + parts[1]:
        scale = scale * c.denominator // gcd(scale, c.denominator)
    whole = [[int(c * scale) for c in part] for part in parts]
    common = gcd(*whole[0], *whole[1])
    if [c for c in whole[1] if c != 0][0] < 0:
        common = -common
    return (tuple(c // common for c in whole[0]), tuple(c // common for c in whole[1]))


def nest(value, depth):
    """Return the value within so many lists, tuples and dicts."""
    for k in range(depth):
        value = ([value], (value, k), {"inner": value})[k % 3]
    return value
