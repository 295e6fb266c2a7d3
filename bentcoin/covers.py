"""Interval numbers, and what shows the sign of a polynomial: covers and root certificates."""

from bentcoin.forms import raise_degree
from bentcoin.kinds import is_fraction, is_interior, is_less, is_polynomial
from bentcoin.polynomials import divide_exactly, evaluate_polynomial


def interval_numbers(polynomial, a, b):
    """Return the interval numbers of the polynomial from a to b, as a form of its own degree."""
    # p runs through (high h + low t) / whole, where h runs from 0 to 1 and h + t is 1.
    low = a[0] * b[1]
    high = b[0] * a[1]
    whole = a[1] * b[1]
    numbers = ()
    power = (1,)
    for c in polynomial:
        raised = [whole * number for number in raise_degree(numbers)]
        numbers = [number + c * term for number, term in zip(raised, power)]
        power = multiply_linear(power, high, low)
    return tuple(numbers)


def multiply_linear(form, high, low):
    """Return the form times high h + low t."""
    return [low * same + high * lower for same, lower in zip((*form, 0), (0, *form))]


def shows_positive(numbers):
    """Tell whether no interval number is negative, and not all are 0."""
    return any(numbers) and min(numbers) >= 0


def is_cover(polynomial, value):
    """Tell whether any value is a cover of the polynomial."""
    if not is_partition(value):
        return False
    # Values come first: they are cheap, and where one is not positive no interval counts.
    for p in value[1:-1]:
        if evaluate_polynomial(polynomial, p)[0] <= 0:
            return False
    return has_positive_numbers(polynomial, value)


def has_positive_numbers(polynomial, points):
    """Tell whether the interval numbers show on each interval between neighbours a positive sign.

    An interval's numbers are sums, with weights that are not negative, of those of any interval
    around it. So where a long one shows the sign, the short ones in it need not be looked at.
    """
    waiting = [(0, len(points) - 1)]
    while waiting != []:
        low, high = waiting.pop()
        if not shows_positive(interval_numbers(polynomial, points[low], points[high])):
            if high - low == 1:
                return False
            middle = (low + high) // 2
            waiting.append((low, middle))
            waiting.append((middle, high))
    return True


def is_partition(value):
    """Tell whether any value is a tuple of fractions in ascending order from (0, 1) to (1, 1)."""
    if not isinstance(value, tuple) or len(value) < 2 or not all([is_fraction(p) for p in value]):
        return False
    if value[0] != (0, 1) or value[-1] != (1, 1):
        return False
    return all([is_less(value[at], value[at + 1]) for at in range(len(value) - 1)])


def is_root(polynomial, divisor, left, right):
    """Tell whether (divisor, left, right), any values, is a root certificate of the polynomial."""
    if not is_polynomial(divisor) or len(divisor) < 2:
        return False
    if not is_interior(left) or not is_interior(right) or is_less(right, left):
        return False
    if divide_exactly(polynomial, divisor) is None:
        return False
    first = evaluate_polynomial(divisor, left)[0]
    second = evaluate_polynomial(divisor, right)[0]
    return first * second < 0 or first == 0 and left == right
