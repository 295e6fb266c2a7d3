"""Claims with certificates that show them, for the tests of the checker."""

from math import comb

from bentcoin.machines import check_termination
from bentcoin.signs import analyze_sign
from tests.helpers import plain_product
from tests.machine_helpers import (
    COIN, ENDED, FAIR, HALF_TRAP, LOOP, MACHINES, MIXED, NEVER, TWICE, UNREACHED, plain_chance,
    plain_mean, plain_never, plain_ranks, plain_worths, renumber, surely_ends,
)
from tests.plain_checker import part_of, plain_form, raised

HALF = ((1,), (2,))
P = ((0, 1), (1,))
ZERO = ((), (1,))
ONE = ((1,), (1,))

# Rational functions in lowest terms that are interior at every interior p.
STAYING = (
    HALF, P, ((1, -1), (1,)), ((0, 1), (2, -1)), ((0, 1, -1), (1,)), ((1,), (5,)), ((0, 0, 1), (1, -2, 2)),
    ((1, -1, 1), (1, 1)), ((3, -8, 7), (4,)), ((0, 2), (1, 1)), ((1,), (1, 1)), ((9, -24, 17), (20,)),
    ((5, -24, 29), (40,)), ((0, 0, 0, 1), (1, -3, 3)),
)

# Rational functions in lowest terms that no machine has, with all kinds of reasons.
NOWHERE = (
    (((0, 2), (1,)), ("beyond", (1, 2), (1, 1))),
    (((0, 2), (1,)), ("beyond", (2, 3), (4, 3))),
    (((-1, 2), (1,)), ("beyond", (1, 2), (0, 1))),
    (((-1, 2), (1,)), ("beyond", (1, 3), (-1, 3))),
    (((-1,), (1,)), ("beyond", (1, 2), (-1, 1))),
    (((1,), (1, -2)), ("beyond", (1, 3), (3, 1))),
    (((1,), (1, -2)), ("root", "lower", (1, -2), (1, 2), (1, 2))),
    (((1,), (1, -4, 4)), ("root", "lower", (-1, 2), (1, 3), (3, 5))),
    (((1, -4, 4), (2,)), ("root", "upper", (-1, 2), (1, 2), (1, 2))),
    (((1, -4, 4), (2,)), ("root", "upper", (1, -2), (2, 5), (4, 7))),
    (((0, 4, -4), (1,)), ("root", "rest", (-1, 2), (1, 2), (1, 2))),
    (((0, 4, -4), (1,)), ("root", "rest", (1, -4, 4), (1, 2), (1, 2))),
    (((1, 0, -4, 0, 4), (2,)), ("root", "upper", (-1, 0, 2), (7, 10), (5, 7))),
    (((2,), (1,)), ("beyond", (1, 999999999), (2, 1))),
)

# A recipe, and a pair for it that is not reduced.
RECIPES = (
    ((2, (0, 1, 0), (0, 2, 0)), ((3,), (6,))),
    ((2, (0, 1, 0), (0, 2, 0)), ((0, -1, 1), (0, -2, 2))),
    ((2, (0, 0, 1), (0, 2, 1)), ((0, 1), (2, -1))),
    ((2, (0, 0, 1), (0, 2, 1)), ((0, -2, 2), (-4, 6, -2))),
    ((0, (0,), (1,)), ((), (-5, 1))),
    ((0, (1,), (1,)), ((7, -7), (7, -7))),
    ((3, (0, 2, 0, 1), (1, 3, 0, 1)), ((0, 2, -4, 3), (1, 0, -3, 3))),
)


def fits(q, m):
    """Tell whether a rational function fits m tosses, by the words of promise 17."""
    n = max(len(q[0]), len(q[1])) - 1
    for s in range((m - n) // 2 + 1 if m >= n else 0):
        ds, es = [
            raised([*[0] * s, *plain_form(part, n), *[0] * s], m - n - 2 * s) for part in q
        ]
        rows = zip(ds, es, [comb(m, k) for k in range(m + 1)])
        if any(es) and all(0 <= d <= e <= most for d, e, most in rows):
            return True
    return False


def dear_candidates(q, m):
    """Return a certificate of each kind that promise 18 describes, where its numbers exist."""
    n = max(len(q[0]), len(q[1])) - 1
    if m < n:
        return [("short",)]
    forms = {which: plain_form(part_of(q, which), n) for which in ("upper", "rest")}
    found = [
        ("signs", which, k) for which in forms for k, c in enumerate(raised(forms[which], m - n)) if c < 0
    ]
    for n0 in range(m - n + 1):
        if min(min(raised(form, n0)) for form in forms.values()) >= 0:
            s = (m - n - n0) // 2
            es = raised([*[0] * s, *plain_form(q[1], n), *[0] * s], m - n - 2 * s)
            before = [("upper", 0)] if n0 == 0 else [
                (which, k) for which in forms
                for k, c in enumerate(raised(forms[which], n0 - 1)) if c < 0
            ]
            found.extend(
                ("room", n0, which, k, j) for which, k in before
                for j, e in enumerate(es) if e > comb(m, j)
            )
            return found
    return found


def list_claims():
    """Return a list of pairs (claim, certificate), at least two of each claim."""
    found = []
    for q in STAYING:
        covers = [analyze_sign(part_of(q, which))[1] for which in ("upper", "rest")]
        found.append((("stays", q), ("covers", *covers)))
    found.extend((("none", q), certificate) for q, certificate in NOWHERE)
    found.extend((("recipe", q, recipe), ()) for recipe, q in RECIPES)
    for q in STAYING:
        for m in (0, 1, 2, 3, 5, 9):
            found.extend((("dear", q, m), certificate) for certificate in dear_candidates(q, m)[:6])
    for machine in MACHINES:
        found.extend(machine_claims(machine))
    return found + list(compared_claims())


def machine_claims(machine):
    answers = sorted({state[1] for state in machine if state[0] == "end"})
    for answer in (*answers[-2:], 42):
        table = plain_chance(machine, answer)
        yield ("chance", machine, answer, table[0]), ("table", table)
        yield ("chance", machine, answer, blow(table[0], (1, -2))), ("table", tuple(map(blow, table)))
    table = plain_never(machine)
    yield ("never", machine, table[0]), ("table", table)
    yield ("never", machine, blow(table[0], (-3,))), ("table", tuple(map(blow, table)))
    if surely_ends(machine):
        ranks, table = plain_ranks(machine), plain_mean(machine)
        yield ("ends", machine), ("ranks", ranks)
        yield ("ends", machine), ("ranks", tuple(2 * r if r else r for r in ranks))
        yield ("mean", machine, table[0]), ("table", table, ranks)
        yield ("mean", machine, blow(table[0])), ("table", tuple(map(blow, table)), ranks)
    else:
        yield ("trapped", machine), check_termination(machine)


def blow(rational, factor=(-2, 0, 6)):
    """Return the rational function as a pair that is not reduced."""
    return tuple(plain_product(part, factor) for part in rational)


def compared_claims():
    swapped = renumber(FAIR, (0, 2, 1, 4, 3))
    more = (*COIN, ("end", 6))
    for one, other in ((COIN, COIN), (COIN, more), (FAIR, swapped), (NEVER, LOOP), (TWICE, (("end", 5),))):
        answers = sorted({state[1] for state in one + other if state[0] == "end"})
        rows = [(a, plain_chance(one, a), plain_chance(other, a)) for a in answers]
        yield ("alike", one, other), ("tables", tuple(rows))
    for one, other, answer in (
        (COIN, FAIR, 1), (COIN, (("toss", 2, 1), ("end", 1), ("end", 0)), 0), (ENDED, NEVER, 7),
        (HALF_TRAP, COIN, 0), (UNREACHED, ENDED, 4), (MIXED, FAIR, 1),
    ):
        for p in ((1, 3), (2, 7)):
            worths = [plain_worths(machine, answer, p) for machine in (one, other)]
            yield ("parted", one, other, p, answer), ("worths", *worths)
