"""Polynomials with integer coefficients, lowest power first, and fractions (n, d)."""

from itertools import zip_longest
from math import gcd


def reduce_fraction(n, d):
    """Return n / d, d not 0, as a fraction in lowest terms with a positive denominator."""
    common = gcd(n, d)
    if d < 0:
        common = -common
    return (n // common, d // common)


def trim_zeros(coefficients):
    """Return the polynomial with these coefficients, of which the last ones may be 0."""
    size = len(coefficients)
    while size > 0 and coefficients[size - 1] == 0:
        size -= 1
    return tuple(coefficients[:size])


def add_polynomials(one, other):
    """Return the sum."""
    return trim_zeros([a + b for a, b in zip_longest(one, other, fillvalue=0)])


def subtract_polynomials(one, other):
    """Return one minus other."""
    return trim_zeros([a - b for a, b in zip_longest(one, other, fillvalue=0)])


def scale_polynomial(polynomial, factor):
    """Return the polynomial times an integer."""
    return trim_zeros([factor * c for c in polynomial])


def multiply_polynomials(one, other):
    """Return the product."""
    total = [0] * (len(one) + len(other))
    for at, a in enumerate(one):
        for k, b in enumerate(other):
            total[at + k] += a * b
    return trim_zeros(total)


def evaluate_polynomial(polynomial, p):
    """Return the value at the fraction p, a fraction."""
    n, d = p
    total = 0
    scale = 1
    for c in reversed(polynomial):
        total = total * n + c * scale
        scale *= d
    # One factor d too many in scale, also for (), whose scale has none.
    return reduce_fraction(total * d, scale)


def divide_exactly(polynomial, other):
    """Return the quotient if polynomial is other times a polynomial, else None; other is not ()."""
    size = max(0, len(polynomial) - len(other) + 1)
    rest = list(polynomial)
    quotient = [0] * size
    for at in reversed(range(size)):
        factor, left = divmod(rest[at + len(other) - 1], other[-1])
        # The highest coefficients settle the quotient's one by one, so that none may be broken.
        if left != 0:
            return None
        quotient[at] = factor
        for k, c in enumerate(other):
            rest[at + k] -= factor * c
    if any(rest):
        return None
    return trim_zeros(quotient)
