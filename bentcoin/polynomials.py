"""Polynomials with integer coefficients, lowest power first, and fractions (n, d)."""

from itertools import zip_longest
from math import gcd

from bentcoin.packing import read_coefficients, value_at_power

# From so many products of coefficients on, one product of two large integers is faster.
PACKED_TERMS = 1000


def reduce_fraction(n, d):
    """Return n / d, d not 0, as a fraction in lowest terms with a positive denominator."""
    common = gcd(n, d)
    if d < 0:
        common = -common
    return (n // common, d // common)


def trim_zeros(coefficients):
    """Return the polynomial with these coefficients, of which the last ones may be 0."""
    size = len(coefficients)
    while size > 0 and coefficients[size - 1] == 0:
        size -= 1
    return tuple(coefficients[:size])


def add_polynomials(one, other):
    """Return the sum."""
    return trim_zeros([a + b for a, b in zip_longest(one, other, fillvalue=0)])


def subtract_polynomials(one, other):
    """Return one minus other."""
    return trim_zeros([a - b for a, b in zip_longest(one, other, fillvalue=0)])


def scale_polynomial(polynomial, factor):
    """Return the polynomial times an integer."""
    return trim_zeros([factor * c for c in polynomial])


def multiply_polynomials(one, other):
    """Return the product."""
    if len(one) * len(other) > PACKED_TERMS:
        return multiply_packed(one, other)
    total = [0] * (len(one) + len(other))
    for at, a in enumerate(one):
        for k, b in enumerate(other):
            total[at + k] += a * b
    return trim_zeros(total)


def multiply_packed(one, other):
    """Return the product of long polynomials: that of their values at a power of 2, read back."""
    bits = count_bits(one) + count_bits(other) + min(len(one), len(other)).bit_length() + 1
    value = value_at_power(one, bits) * value_at_power(other, bits)
    if value < 0:
        return scale_polynomial(read_coefficients(-value, bits), -1)
    return trim_zeros(read_coefficients(value, bits))


def count_bits(polynomial):
    """Return the number of bits of the largest coefficient."""
    return max([c.bit_length() for c in polynomial])


def evaluate_polynomial(polynomial, p):
    """Return the value at the fraction p, a fraction."""
    n, d = p
    total = 0
    scale = 1
    for c in reversed(polynomial):
        total = total * n + c * scale
        scale *= d
    # One factor d too many in scale, also for (), whose scale has none.
    return reduce_fraction(total * d, scale)


def divide_exactly(polynomial, other):
    """Return the quotient if polynomial is other times a polynomial, else None; other is not ()."""
    size = max(0, len(polynomial) - len(other) + 1)
    rest = list(polynomial)
    quotient = [0] * size
    for at in reversed(range(size)):
        factor, left = divmod(rest[at + len(other) - 1], other[-1])
        # The highest coefficients settle the quotient's one by one, so that none may be broken.
        if left != 0:
            return None
        quotient[at] = factor
        for k, c in enumerate(other):
            rest[at + k] -= factor * c
    if any(rest):
        return None
    return trim_zeros(quotient)
