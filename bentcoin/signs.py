"""The sign of a polynomial between 0 and 1: positive, negative somewhere, or 0 somewhere."""

from bentcoin.covers import interval_numbers, shows_positive
from bentcoin.divisors import common_divisor
from bentcoin.forms import to_form
from bentcoin.halving import halve_numbers, level_numbers, level_point, split_level
from bentcoin.polynomials import divide_exactly, evaluate_polynomial
from bentcoin.rationals import first_nonzero

# Roots that halvings leave side by side are looked for with at most so many halvings more.
MORE_HALVINGS = 100


def analyze_sign(polynomial, *, halvings=40):
    """Return a result that classifies the polynomial, not (): see signs in the document.

    It is ("cover", cover), ("below", p), ("root", g, l, r) or ("unsettled", a, b).
    """
    form = to_form(polynomial, len(polynomial) - 1)
    if first_nonzero(form) < 0:
        return ("below", negative_near(polynomial, 0))
    if last_nonzero(form) < 0:
        return ("below", negative_near(polynomial, 1))
    return analyze_intervals(polynomial, [(0, level_numbers(form))], halvings)


def last_nonzero(numbers):
    """Return the last number that is not 0; one at least is not."""
    return first_nonzero(numbers[::-1])


def negative_near(polynomial, end):
    """Return an interior fraction near 0 or 1, where the polynomial surely is negative near it."""
    depth = 1
    while True:
        p = level_point((1 << depth) - 1 if end == 1 else 1, depth)
        if evaluate_polynomial(polynomial, p)[0] < 0:
            return p
        depth += 1


def analyze_intervals(polynomial, level, halvings):
    """Return the result for a polynomial that is positive near 0 and near 1."""
    # Points are kept as multiples of 1 / 2^halvings, which sort as integers.
    points = [0, 1 << halvings]
    for depth in range(halvings + 1):
        for index, numbers in level:
            # An odd index is that of a right half: its first number tells the sign in the middle.
            if index & 1 == 1 and numbers[0] <= 0:
                return tell_point(level_point(index, depth), numbers[0])
            if index & 1 == 1:
                points.append(index << (halvings - depth))
        level = [(index, numbers) for index, numbers in level if not shows_positive(numbers)]
        if level == []:
            return ("cover", tuple([level_point(index, halvings) for index in sorted(points)]))
        if depth < halvings:
            level = split_level(level)
    return analyze_rest(polynomial, [index for index, _ in level], halvings)


def tell_point(p, number):
    """Return the result for a point where the polynomial is negative or 0, as the number tells."""
    return ("below", p) if number < 0 else root_at(p)


def root_at(p):
    """Return the result for a polynomial that is 0 at p."""
    return ("root", (-p[0], p[1]), p, p)


def analyze_rest(polynomial, indices, depth):
    """Return the result if only the intervals of these indices and this depth are left.

    The polynomial is positive where they meet others, and has negative numbers on each.
    """
    divisor = squarefree_part(polynomial)
    for index in indices:
        root = find_root(divisor, index, depth)
        if root is not None:
            return root
    return ("unsettled", level_point(indices[0], depth), level_point(indices[0] + 1, depth))


def squarefree_part(polynomial):
    """Return the polynomial, not a constant, divided by its common divisor with its derivative."""
    derivative = tuple([at * c for at, c in enumerate(polynomial)][1:])
    return divide_exactly(polynomial, common_divisor(polynomial, derivative))


def find_root(divisor, index, depth):
    """Return the result for a root in one interval of a squarefree divisor; None if none is found."""
    a, b = level_point(index, depth), level_point(index + 1, depth)
    level = [(index, level_numbers(interval_numbers(divisor, a, b)))]
    for more in range(depth, depth + MORE_HALVINGS):
        for at, numbers in level:
            # An end with the value 0 comes first, at a left half: certificates need two signs.
            if numbers[-1] == 0 and at + 1 < 1 << more:
                return root_at(level_point(at + 1, more))
            if changes_sign(numbers):
                return narrow_root(divisor, at, more, numbers)
        # Where no number has another sign than the others there is no root.
        level = split_level([(at, numbers) for at, numbers in level if min(numbers) < 0 < max(numbers)])
    return None


def changes_sign(numbers):
    """Tell whether the signs just inside of both ends of the interval are opposite."""
    return first_nonzero(numbers) * last_nonzero(numbers) < 0


def narrow_root(divisor, index, depth, numbers):
    """Return the result for an interval in which the divisor changes its sign.

    Where the interval ends at 0 or 1 it is halved until it ends at neither: the certificate
    is to have interior fractions.
    """
    while index == 0 or index + 1 == 1 << depth:
        left, right = halve_numbers(numbers)
        depth += 1
        if right[0] == 0:
            return root_at(level_point(2 * index + 1, depth))
        if changes_sign(left):
            index, numbers = 2 * index, left
        else:
            index, numbers = 2 * index + 1, right
    return ("root", divisor, level_point(index, depth), level_point(index + 1, depth))
