"""Synthesis: the recipe of a rational function, or what shows that there is none to be found."""

from math import comb

from bentcoin.forms import squeeze_form, to_form
from bentcoin.kinds import is_interior
from bentcoin.polynomials import evaluate_polynomial, reduce_fraction
from bentcoin.rationals import evaluate_rational, named_part, rational_degree
from bentcoin.recipes import find_wrong_row
from bentcoin.signs import analyze_sign


def fit_recipe(rational, tosses):
    """Return the recipe with the fewest squeezes if the rational function fits so many tosses, else None."""
    most = (tosses - rational_degree(rational)) // 2
    for squeezes in range(most + 1):
        ds = squeeze_form(rational[0], tosses, squeezes)
        # A denominator is not (), so that not all of its entries are 0.
        es = squeeze_form(rational[1], tosses, squeezes)
        if find_wrong_row(tosses, ds, es) is None:
            return (tosses, ds, es)
    return None


def synthesize(rational, *, tosses=12, halvings=40):
    """Return ("recipe", recipe), ("none", certificate), ("dear", certificate) or ("unsettled", which, a, b)."""
    for count in range(tosses + 1):
        recipe = fit_recipe(rational, count)
        if recipe is not None:
            return ("recipe", recipe)
    unsettled = None
    for which in ("upper", "rest"):
        result = analyze_sign(named_part(rational, which), halvings=halvings)
        if result[0] in ("below", "root"):
            return ("none", none_certificate(rational, which, result))
        # The other polynomial may still show that no machine has this probability.
        if result[0] == "unsettled" and unsettled is None:
            unsettled = ("unsettled", which, result[1], result[2])
    return ("dear", dear_certificate(rational, tosses)) if unsettled is None else unsettled


def none_certificate(rational, which, result):
    """Return a "none" certificate, from the named polynomial's root or a point where it is negative."""
    if result[0] == "root":
        return ("root", which, *result[1:])
    p = result[1]
    if evaluate_polynomial(rational[1], p)[0] == 0:
        return ("root", "lower", (-p[0], p[1]), p, p)
    value = evaluate_rational(rational, p)
    if not is_interior(value):
        return ("beyond", p, value)
    # All three polynomials are negative at p. But near 0 the denominator is positive, as its first
    # nonzero coefficient is: it has a root between.
    return ("root", "lower", rational[1], positive_below(rational[1], p), p)


def positive_below(polynomial, p):
    """Return a fraction between 0 and p at which the polynomial is positive, as it is near 0."""
    while evaluate_polynomial(polynomial, p)[0] <= 0:
        p = reduce_fraction(p[0], 2 * p[1])
    return p


def dear_certificate(rational, tosses):
    """Return a "dear" certificate, for a rational function that is interior and fits no so many tosses."""
    if tosses < rational_degree(rational):
        return ("short",)
    negative = find_negative(rational, tosses)
    if negative is not None:
        return ("signs", *negative)
    return room_certificate(rational, tosses)


def find_negative(rational, degree):
    """Return (which, k) for a negative entry of the forms of this degree; None if there is none."""
    for which in ("upper", "rest"):
        for k, entry in enumerate(to_form(named_part(rational, which), degree)):
            if entry < 0:
                return (which, k)
    return None


def room_certificate(rational, tosses):
    """Return a "room" certificate: the forms have no negative entries, but the denominator's are too large."""
    degree = rational_degree(rational)
    raised = 0
    shown = ("upper", 0)
    negative = find_negative(rational, degree)
    while negative is not None:
        raised += 1
        shown = negative
        negative = find_negative(rational, degree + raised)
    form = squeeze_form(rational[1], tosses, (tosses - degree - raised) // 2)
    excess = [j for j, entry in enumerate(form) if entry > comb(tosses, j)]
    return ("room", raised, *shown, excess[0])
