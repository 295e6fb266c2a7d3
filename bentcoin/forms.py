"""Homogeneous forms: a polynomial as the sum of c_k h^k t^(n - k), where h = p and t = 1 - p."""

from bentcoin.polynomials import trim_zeros


def to_form(polynomial, degree):
    """Return the form of this degree of a polynomial with at most degree + 1 coefficients."""
    form = ()
    for at in range(degree + 1):
        # The terms up to p^at, as a form of degree at: the earlier ones times h + t, and h^at.
        last = polynomial[at] if at < len(polynomial) else 0
        form = add_to_last(raise_degree(form), last)
    return form


def add_to_last(form, number):
    """Return the form with a number added to its last entry."""
    entries = list(form)
    entries[-1] += number
    return tuple(entries)


def raise_degree(form):
    """Return the form of the next degree of the same polynomial: the form times h + t."""
    return tuple([lower + upper for lower, upper in zip((*form, 0), (0, *form))])


def multiply_by_ht(form):
    """Return the form times h t."""
    return (0, *form, 0)


def squeeze_form(polynomial, degree, squeezes):
    """Return the form of this degree of the polynomial times (h t)^squeezes."""
    form = to_form(polynomial, degree - 2 * squeezes)
    for _ in range(squeezes):
        form = multiply_by_ht(form)
    return form


def from_form(form):
    """Return the polynomial of the form."""
    coefficients = ()
    for c in form:
        # The entries up to this one, as a polynomial: the earlier ones times 1 - p, and a power of p.
        shifted = [same - lower for same, lower in zip((*coefficients, 0), (0, *coefficients))]
        coefficients = add_to_last(shifted, c)
    return trim_zeros(coefficients)
