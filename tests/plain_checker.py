"""A second checker, by the words of promise 8 and nothing else; for the tests of the first."""

from fractions import Fraction
from math import comb, gcd

from tests.helpers import plain_divide, plain_product, plain_value, trim
from tests.machine_helpers import plain_distance, plain_reachable


class Wrong(Exception):
    """The certificate does not show the claim."""


def demand(test):
    if not test:
        raise Wrong()


def plain_check(claim, certificate):
    try:
        RULES[claim[0]](certificate, *claim[1:])
    except Wrong:
        return False
    return True


def whole(value):
    demand(type(value) is int)
    return value


def take(value, *kinds):
    """Demand a tuple of as many elements as kinds, each of which reads its element."""
    demand(type(value) is tuple and len(value) == len(kinds))
    return [kind(part) for kind, part in zip(kinds, value)]


def each(value, kind):
    demand(type(value) is tuple)
    return [kind(part) for part in value]


def anything(value):
    return value


def word(*allowed):
    def read(value):
        demand(type(value) is str and value in allowed)
        return value
    return read


def read_fraction(value):
    n, d = take(value, whole, whole)
    demand(d > 0 and gcd(n, d) == 1)
    return Fraction(n, d)


def read_interior(value):
    p = read_fraction(value)
    demand(0 < p < 1)
    return p


def read_polynomial(value):
    coefficients = each(value, whole)
    demand(not coefficients or coefficients[-1] != 0)
    return tuple(coefficients)


def read_pair(value):
    upper, lower = take(value, read_polynomial, read_polynomial)
    demand(lower)
    return upper, lower


def minus(one, other):
    size = max(len(one), len(other))
    pad = [(*part, *[0] * (size - len(part))) for part in (one, other)]
    return trim(a - b for a, b in zip(*pad))


def plus(one, other):
    return minus(one, tuple(-c for c in other))


def equal(one, other):
    demand(plain_product(one[0], other[1]) == plain_product(one[1], other[0]))


def part_of(q, which):
    return {"upper": q[0], "lower": q[1], "rest": minus(q[1], q[0])}[which]


def plain_form(polynomial, degree):
    """Return the form by p^i = h^i (h + t)^(degree - i)."""
    return [
        sum(c * comb(degree - i, k - i) for i, c in enumerate(polynomial) if i <= k)
        for k in range(degree + 1)
    ]


def substitute_line(polynomial, start, step):
    """Return the polynomial, with Fractions, evaluated at start + step p."""
    total = []
    for c in reversed(polynomial):
        shifted = [Fraction(0)] + [step * x for x in total]
        total = [a + start * b for a, b in zip(shifted, [*total, Fraction(0)])]
        total[0] += c
    return total[:len(polynomial)]


def read_cover(polynomial, value):
    points = each(value, read_fraction)
    demand(len(points) >= 2 and points[0] == 0 and points[-1] == 1)
    demand(all(a < b for a, b in zip(points, points[1:])))
    demand(all(plain_value(polynomial, p) > 0 for p in points[1:-1]))
    for a, b in zip(points, points[1:]):
        numbers = plain_form(substitute_line(polynomial, a, b - a), len(polynomial) - 1)
        demand(all(c >= 0 for c in numbers) and any(numbers))


def root_of(polynomial, g, left, right):
    g, left, right = read_polynomial(g), read_interior(left), read_interior(right)
    demand(polynomial and len(g) >= 2)
    quotient, rest = plain_divide(polynomial, g)
    demand(not rest and all(Fraction(c).denominator == 1 for c in quotient))
    first, second = plain_value(g, left), plain_value(g, right)
    demand(left < right and first * second < 0 or left == right and first == 0)


def rule_stays(certificate, q):
    _, one, other = take(certificate, word("covers"), anything, anything)
    read_cover(q[0], one)
    read_cover(part_of(q, "rest"), other)


def rule_none(certificate, q):
    demand(type(certificate) is tuple and certificate and certificate[0] in ("beyond", "root"))
    if certificate[0] == "root":
        names = word("upper", "lower", "rest")
        _, which, g, left, right = take(certificate, word("root"), names, anything, anything, anything)
        root_of(part_of(q, which), g, left, right)
        return
    _, p, value = take(certificate, word("beyond"), read_interior, read_fraction)
    demand(plain_value(q[1], p) != 0 and q not in (((), (1,)), ((1,), (1,))))
    demand(plain_value(q[0], p) / plain_value(q[1], p) == value and (value <= 0 or value >= 1))


def rule_recipe(certificate, q, recipe):
    demand(type(certificate) is tuple and certificate == ())
    m, ds, es = recipe
    upper, lower = [sum_form(form, m) for form in (ds, es)]
    equal(q, (upper, lower))


def sum_form(form, degree):
    """Return the polynomial of the form by multiplying out."""
    total = ()
    for k, c in enumerate(form):
        term = (c,)
        for _ in range(k):
            term = plain_product(term, (0, 1))
        for _ in range(degree - k):
            term = plain_product(term, (1, -1))
        total = plus(total, trim(term))
    return total


def raised(form, times):
    for _ in range(times):
        form = [a + b for a, b in zip([*form, 0], [0, *form])]
    return form


def rule_dear(certificate, q, m):
    n = max(len(q[0]), len(q[1])) - 1
    demand(type(certificate) is tuple and certificate and certificate[0] in ("short", "signs", "room"))
    both = word("upper", "rest")
    if certificate[0] == "short":
        demand(len(certificate) == 1 and m < n)
    elif certificate[0] == "signs":
        _, which, k = take(certificate, word("signs"), both, whole)
        demand(m >= n and 0 <= k <= m)
        demand(raised(plain_form(part_of(q, which), n), m - n)[k] < 0)
    else:
        _, n0, which, k, j = take(certificate, word("room"), whole, both, whole, whole)
        demand(0 <= n0 <= m - n and 0 <= j <= m)
        for name in ("upper", "rest"):
            demand(min(raised(plain_form(part_of(q, name), n), n0)) >= 0)
        if n0 == 0:
            demand(which == "upper" and k == 0)
        else:
            form = raised(plain_form(part_of(q, which), n), n0 - 1)
            demand(0 <= k < len(form) and form[k] < 0)
        s = (m - n - n0) // 2
        form = plain_form(q[1], n)
        for _ in range(s):
            form = [0, *form, 0]
        demand(raised(form, m - n - 2 * s)[j] > comb(m, j))


def read_ranks(machine, value):
    ranks = each(value, anything)
    demand(len(ranks) == len(machine))
    reached = plain_reachable(machine)
    for k, state in enumerate(machine):
        if k not in reached:
            demand(ranks[k] is None)
        elif state[0] == "end":
            demand(whole(ranks[k]) == 0)
        else:
            demand(state[0] == "toss")
            below = [ranks[x] for x in state[1:] if type(ranks[x]) is int]
            demand(below and whole(ranks[k]) > min(below))


def rule_ends(certificate, machine):
    _, ranks = take(certificate, word("ranks"), anything)
    read_ranks(machine, ranks)


def rule_trapped(certificate, machine):
    _, tape, states = take(certificate, word("trap"), anything, lambda x: each(x, whole))
    demand(states and all(a < b for a, b in zip(states, states[1:])))
    for k in states:
        demand(0 <= k < len(machine) and machine[k][0] != "end")
        demand(machine[k][0] == "never" or all(x in states for x in machine[k][1:]))
    demand(type(tape) is str)
    at = 0
    for side in tape:
        demand(side in "HT" and machine[at][0] == "toss")
        at = machine[at]["_HT".index(side)]
    demand(at in states)


def mean_of(state, table):
    one, other = table[state[1]], table[state[2]]
    upper = plus(
        plain_product((0, 1), plain_product(one[0], other[1])),
        plain_product((1, -1), plain_product(other[0], one[1])),
    )
    return upper, plain_product(one[1], other[1])


def read_table(machine, value, at_end, at_trap):
    table = each(value, read_pair)
    demand(len(table) == len(machine))
    for k, state in enumerate(machine):
        if plain_distance(machine, k) is None:
            equal(table[k], at_trap)
        elif state[0] == "end":
            equal(table[k], at_end(state[1]))
        else:
            equal(table[k], mean_of(state, table))
    return table


def constant(number):
    return ((number,) if number else (), (1,))


def read_chances(machine, value, answer):
    return read_table(machine, value, lambda x: constant(int(x == answer)), constant(0))


def rule_chance(certificate, machine, answer, q):
    _, table = take(certificate, word("table"), anything)
    equal(read_chances(machine, table, answer)[0], q)


def rule_never(certificate, machine, q):
    _, table = take(certificate, word("table"), anything)
    equal(read_table(machine, table, lambda x: constant(0), constant(1))[0], q)


def rule_mean(certificate, machine, q):
    _, value, ranks = take(certificate, word("table"), anything, anything)
    table = each(value, read_pair)
    demand(len(table) == len(machine))
    read_ranks(machine, ranks)
    for k in plain_reachable(machine):
        upper, lower = constant(0)
        if machine[k][0] == "toss":
            upper, lower = mean_of(machine[k], table)
            upper = plus(upper, lower)
        equal(table[k], (upper, lower))
    equal(table[0], q)


def rule_alike(certificate, one, other):
    rows = take(certificate, word("tables"), lambda x: each(x, anything))[1]
    answers = sorted({state[1] for state in one + other if state[0] == "end"})
    demand(len(rows) == len(answers))
    for row, answer in zip(rows, answers):
        found, first, second = take(row, whole, anything, anything)
        demand(found == answer)
        equal(read_chances(one, first, answer)[0], read_chances(other, second, answer)[0])


def rule_parted(certificate, one, other, p, answer):
    readers = [lambda x: each(x, read_fraction)] * 2
    _, first, second = take(certificate, word("worths"), *readers)
    at = read_interior(p)
    for machine, worths in ((one, first), (other, second)):
        demand(len(worths) == len(machine))
        for k, state in enumerate(machine):
            due = 0
            if plain_distance(machine, k) is not None:
                if state[0] == "end":
                    due = int(state[1] == answer)
                else:
                    due = at * worths[state[1]] + (1 - at) * worths[state[2]]
            demand(worths[k] == due)
    demand(first[0] != second[0])


RULES = {
    "stays": rule_stays, "none": rule_none, "recipe": rule_recipe, "dear": rule_dear,
    "ends": rule_ends, "trapped": rule_trapped, "chance": rule_chance, "never": rule_never,
    "mean": rule_mean, "alike": rule_alike, "parted": rule_parted,
}
