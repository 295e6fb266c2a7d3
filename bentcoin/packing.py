"""Polynomials as single integers: their values at a power of 2, and back."""


def value_at_power(polynomial, bits):
    """Return the value of the polynomial at 2^bits."""
    value = 0
    for c in reversed(polynomial):
        value = (value << bits) + c
    return value


def read_coefficients(value, bits):
    """Return the coefficients, around 0, of the polynomial that has this value, not below 0, at 2^bits."""
    base = 1 << bits
    coefficients = []
    while value > 0:
        c = value & (base - 1)
        if 2 * c >= base:
            c -= base
        coefficients.append(c)
        value = (value - c) >> bits
    return coefficients
