"""Halving intervals: a polynomial's interval numbers from one interval to its two halves."""

from math import comb, lcm

from bentcoin.polynomials import reduce_fraction


def level_numbers(form):
    """Return the entries of a form, each divided by its binomial, times one positive number.

    Their signs are those of the entries, and both halves are had from them by sums alone.
    """
    degree = len(form) - 1
    whole = 1
    for k in range(degree + 1):
        whole = lcm(whole, comb(degree, k))
    return [c * (whole // comb(degree, k)) for k, c in enumerate(form)]


def halve_numbers(numbers):
    """Return the level numbers of the left and of the right half, times one positive number."""
    degree = len(numbers) - 1
    left = [numbers[0] << degree]
    right = [numbers[-1] << degree]
    row = numbers
    for at in range(1, degree + 1):
        # The mean of neighbours, again and again; instead of halving, all is doubled at last.
        row = [row[k] + row[k + 1] for k in range(len(row) - 1)]
        left.append(row[0] << (degree - at))
        right.append(row[-1] << (degree - at))
    shift = common_twos(left + right)
    right.reverse()
    return ([c >> shift for c in left], [c >> shift for c in right])


def common_twos(numbers):
    """Return how often 2 divides all the numbers; 0 if they are all 0."""
    joined = 0
    for c in numbers:
        joined |= c
    return max(0, (joined & -joined).bit_length() - 1)


def split_level(level):
    """Return the intervals of the next level: a level is a list of pairs (index, numbers).

    The interval of an index at the level of depth d goes from index / 2^d to (index + 1) / 2^d.
    """
    halves = []
    for index, numbers in level:
        left, right = halve_numbers(numbers)
        halves.append((2 * index, left))
        halves.append((2 * index + 1, right))
    return halves


def level_point(index, depth):
    """Return index / 2^depth as a fraction."""
    return reduce_fraction(index, 1 << depth)
