"""Rational functions: pairs (numerator, denominator) of polynomials in lowest terms."""

from math import gcd

from bentcoin.divisors import common_divisor, divide_by_integer, integer_content
from bentcoin.errors import UndefinedValue, ZeroDenominator
from bentcoin.polynomials import add_polynomials, divide_exactly, evaluate_polynomial
from bentcoin.polynomials import multiply_polynomials, reduce_fraction, scale_polynomial
from bentcoin.polynomials import subtract_polynomials


def reduce_rational(numerator, denominator):
    """Return the rational function of any two polynomials in lowest terms."""
    if denominator == ():
        raise ZeroDenominator()
    if numerator == ():
        return ((), (1,))
    divisor = common_divisor(numerator, denominator)
    return reduce_integers(divide_exactly(numerator, divisor), divide_exactly(denominator, divisor))


def reduce_integers(numerator, denominator):
    """Return the rational function of two polynomials that only integers divide in common."""
    common = gcd(integer_content(numerator), integer_content(denominator))
    if first_nonzero(denominator) < 0:
        common = -common
    return (divide_by_integer(numerator, common), divide_by_integer(denominator, common))


def first_nonzero(polynomial):
    """Return the first nonzero coefficient of a polynomial that is not ()."""
    at = 0
    while polynomial[at] == 0:
        at += 1
    return polynomial[at]


def rational_degree(rational):
    """Return the larger degree of numerator and denominator."""
    return max(len(rational[0]), len(rational[1])) - 1


def named_part(rational, which):
    """Return the numerator ("upper"), the denominator ("lower"), or the latter minus the former."""
    if which == "rest":
        return subtract_polynomials(rational[1], rational[0])
    return rational[0] if which == "upper" else rational[1]


def add_rationals(one, other):
    """Return the sum."""
    left = multiply_polynomials(one[0], other[1])
    right = multiply_polynomials(other[0], one[1])
    return reduce_rational(add_polynomials(left, right), multiply_polynomials(one[1], other[1]))


def subtract_rationals(one, other):
    """Return one minus other."""
    left = multiply_polynomials(one[0], other[1])
    right = multiply_polynomials(other[0], one[1])
    return reduce_rational(subtract_polynomials(left, right), multiply_polynomials(one[1], other[1]))


def multiply_rationals(one, other):
    """Return the product."""
    numerator = multiply_polynomials(one[0], other[0])
    return reduce_rational(numerator, multiply_polynomials(one[1], other[1]))


def compose_rationals(outer, inner):
    """Return outer with inner substituted for p."""
    degree = max(len(outer[0]), len(outer[1])) - 1
    powers = list_powers(inner[1], degree)
    numerator = substitute_pair(outer[0], inner[0], powers)
    denominator = substitute_pair(outer[1], inner[0], powers)
    if denominator == ():
        raise ZeroDenominator()
    # Outer's pair, made homogeneous in its own degree, has no common root (not at infinity
    # either), and inner's pair has none; so the new pair has none, and only integers are left.
    # If the numerator is (), outer is 0 or inner a constant, and the denominator is an integer.
    return reduce_integers(numerator, denominator)


def list_powers(polynomial, degree):
    """Return the list of the powers of the polynomial from 0 to degree."""
    powers = [(1,)]
    for _ in range(degree):
        powers.append(multiply_polynomials(powers[-1], polynomial))
    return powers


def substitute_pair(polynomial, upper, powers):
    """Return the polynomial at upper / lower, times the highest of the powers of lower."""
    total = ()
    for at in reversed(range(len(polynomial))):
        term = scale_polynomial(powers[len(powers) - 1 - at], polynomial[at])
        total = add_polynomials(multiply_polynomials(total, upper), term)
    return total


def evaluate_rational(rational, p):
    """Return the value at the fraction p, a fraction."""
    upper = evaluate_polynomial(rational[0], p)
    lower = evaluate_polynomial(rational[1], p)
    if lower[0] == 0:
        raise UndefinedValue(p)
    return reduce_fraction(upper[0] * lower[1], upper[1] * lower[0])
