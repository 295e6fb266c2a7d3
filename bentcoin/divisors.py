"""Common divisors: of the coefficients of a polynomial, and of two polynomials."""

from math import gcd

from bentcoin.packing import read_coefficients, value_at_power
from bentcoin.polynomials import divide_exactly, trim_zeros

# The number of bits beyond those of the coefficients that the first guess takes at most.
MAX_ROOM = 100


def integer_content(polynomial):
    """Return the greatest integer that divides all coefficients; 0 for ()."""
    common = 0
    for c in polynomial:
        common = gcd(common, c)
    return common


def divide_by_integer(polynomial, divisor):
    """Return the polynomial with each coefficient divided by an integer that divides them all."""
    return tuple([c // divisor for c in polynomial])


def primitive_part(polynomial):
    """Return a polynomial, not (), without the integer that divides all its coefficients."""
    return divide_by_integer(polynomial, integer_content(polynomial))


def common_divisor(one, other):
    """Return the polynomial of highest degree that divides both, neither of them ().

    No integer greater than 1 divides all its coefficients, and the last one is positive.
    """
    first = primitive_part(one)
    second = primitive_part(other)
    bits = first_bits(first, second)
    # Why a guess G that divides both is the divisor sought: that one is G times some C. With
    # x = 2^bits, the values at x have the common divisor c G(x), where c, the integer that the
    # guess was freed of, is at most x / 2; G(x) C(x) divides it, so C(x) is at most x / 2. But
    # all roots of both are more than x / 2 away from x: if C had a root, C(x) would be greater.
    # Why the loop ends: with D the divisor sought, the values have the common divisor r D(x),
    # where r divides the resultant of both by D. So r is bounded, and as soon as all
    # coefficients of r D are below x / 2, they are read off, and the guess is D.
    while True:
        guess = guess_divisor(first, second, bits)
        if divides(guess, first) and divides(guess, second):
            return guess
        bits *= 2


def divides(divisor, polynomial):
    """Tell whether the divisor, not (), divides the polynomial."""
    return divide_exactly(polynomial, divisor) is not None


def first_bits(one, other):
    """Return bits such that 2^bits is greater than twice any coefficient plus 2, with some room."""
    height = max(max([abs(c) for c in one]), max([abs(c) for c in other]))
    # The values of long polynomials at a large power take long; a guess that fails costs less.
    return height.bit_length() + min(len(one) + len(other), MAX_ROOM)


def guess_divisor(one, other, bits):
    """Return the polynomial read off the common divisor of both values at 2^bits."""
    value = gcd(value_at_power(one, bits), value_at_power(other, bits))
    return primitive_part(trim_zeros(read_coefficients(value, bits)))
