"""Whether any value is of a kind: an integer, a fraction, a polynomial, a word and the like."""

from math import gcd

MAX_LETTERS = 6


def is_integer(value):
    """Tell whether the value is an int that is not a bool."""
    return isinstance(value, int) and not isinstance(value, bool)


def is_index(value, size):
    """Tell whether the value is an integer from 0 to size - 1."""
    return is_integer(value) and 0 <= value < size


def is_tuple(value, size):
    """Tell whether the value is a tuple of this many elements."""
    return isinstance(value, tuple) and len(value) == size


def begins_with(value, word, size):
    """Tell whether the value is a tuple of this many elements, at least one, the first the word."""
    return is_tuple(value, size) and value[0] == word


def is_fraction(value):
    """Tell whether the value is a fraction in lowest terms with a positive denominator."""
    if not is_tuple(value, 2) or not is_integer(value[0]) or not is_integer(value[1]):
        return False
    return value[1] > 0 and gcd(value[0], value[1]) == 1


def is_interior(value):
    """Tell whether the value is a fraction strictly between 0 and 1."""
    return is_fraction(value) and 0 < value[0] < value[1]


def is_less(one, other):
    """Tell whether one fraction is less than the other."""
    return one[0] * other[1] < other[0] * one[1]


def is_polynomial(value):
    """Tell whether the value is a tuple of integers, the last one not 0."""
    if not isinstance(value, tuple) or not all([is_integer(c) for c in value]):
        return False
    return value == () or value[-1] != 0


def is_rational_pair(value):
    """Tell whether the value is a pair of polynomials, reduced or not, the second one not ()."""
    if not is_tuple(value, 2) or not is_polynomial(value[0]) or not is_polynomial(value[1]):
        return False
    return value[1] != ()


def is_word(value):
    """Tell whether the value is a string of 1 to 6 letters a to z."""
    if not isinstance(value, str) or not 1 <= len(value) <= MAX_LETTERS:
        return False
    return all(["a" <= sign <= "z" for sign in value])
