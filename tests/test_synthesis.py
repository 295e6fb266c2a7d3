"""Promises 17 and 18: what fits, what no machine has, and what needs more tosses."""

import unittest
from fractions import Fraction
from math import comb

from bentcoin.checker import check_claim
from bentcoin.forms import from_form
from bentcoin.rationals import compose_rationals, reduce_rational
from bentcoin.recipes import recipe_error, recipe_probability
from bentcoin.signs import analyze_sign
from bentcoin.synthesis import fit_recipe, synthesize
from tests.changes import list_changes
from tests.claims import NOWHERE, STAYING, dear_candidates
from tests.helpers import (
    make_generator, plain_common_divisor, plain_divide, plain_product, plain_value, power,
    random_polynomial,
)
from tests.machine_helpers import ONE, P, ZERO
from tests.plain_checker import part_of, plain_check, plain_form, raised, substitute_line

HALF = ((1,), (2,))
THIRD = ((1,), (3,))

# Leaves the interval, touches 0 and 1 (at a fraction and at none), has poles of all kinds.
BEYOND = (
    *[q for q, _ in NOWHERE], ((1, -1, 2), (1,)), ((0, -1), (1,)), ((3,), (2,)), ((-1,), (2,)),
    ((1, 4, -4), (2,)), ((1, 0, 4, 0, -4), (2,)), ((0, 1), (1, -1)), ((1,), (0, 1)), ((1, -3), (1, -2)),
    # Numerator, denominator and rest are all negative near 1.
    ((1, -2), (3, -5)), ((9, -10), (40, -42)), ((0, 1, -2), (3, -5)), ((99, -100), (200, -201)),
    # A pole where neither the numerator nor the rest has a root.
    ((1,), (2, -9, 9)), ((-1,), (1, -4, 4)), ((1,), (1, 0, -4, 0, 4)),
    # Beyond 0 or 1 only near an end.
    ((-1, 10 ** 40), (10 ** 40,)), ((10 ** 40 - 1, -(10 ** 40)), (10 ** 40,)), ((2, -(10 ** 30)), (1,)),
)


def square_of(polynomial):
    return plain_product(polynomial, polynomial)


def almost(polynomial, scale):
    """Return a rational function that is small, and almost 0 at the roots of the polynomial."""
    upper = tuple(scale * c for c in square_of(polynomial))
    return reduce_rational((upper[0] + 1, *upper[1:]), (scale * 10 ** 6,))


ALMOST = tuple(
    almost(polynomial, 10 ** digits) for polynomial in ((-1, 3), (-2, 5), (-1, 0, 2)) for digits in (3, 9, 25)
)


def plain_fit(q, m):
    """Return the recipe for the smallest s, by the words of promise 17; None if there is none."""
    n = max(len(q[0]), len(q[1])) - 1
    for s in range(m):
        if m >= n and 2 * s <= m - n:
            forms = []
            for part in q:
                form = plain_form(part, n)
                for _ in range(s):
                    form = [0, *form, 0]
                forms.append(tuple(raised(form, m - n - 2 * s)))
            if all(0 <= d <= e <= comb(m, k) for k, (d, e) in enumerate(zip(*forms))) and any(forms[1]):
                return (m, *forms)
    return None


def fit_constants(q):
    return {ZERO: (0, (0,), (1,)), ONE: (0, (1,), (1,))}.get(q)


def plain_first(q, tosses):
    """Return the recipe of the smallest m up to tosses, or None."""
    for m in range(tosses + 1):
        recipe = fit_constants(q) or plain_fit(q, m)
        if recipe is not None:
            return recipe
    return None


def random_forms(generator, n, largest):
    """Return a rational function of forms with 0 <= d <= e, which stays where it is no constant."""
    es = tuple(generator.randint(1, largest) for _ in range(n + 1))
    ds = tuple(generator.randint(0, e) for e in es)
    return reduce_rational(from_form(ds), from_form(es))


def squarefree(polynomial):
    derivative = [k * c for k, c in enumerate(polynomial)][1:]
    if not any(derivative):
        return list(polynomial)
    return plain_divide(polynomial, plain_common_divisor(polynomial, derivative))[0]


def interval_words(polynomial, halvings):
    """Return for each interval of 1 / 2^halvings what it shows: "positive", "below", "root" or "open"."""
    part = squarefree(polynomial)
    size = 2 ** halvings
    for k in range(size):
        a, b = Fraction(k, size), Fraction(k + 1, size)
        if k > 0 and plain_value(polynomial, a) <= 0:
            yield "below"
        numbers = plain_form(substitute_line(polynomial, a, b - a), len(polynomial) - 1)
        if min(numbers) >= 0 and any(numbers):
            yield "positive"
        elif plain_value(part, a) * plain_value(part, b) < 0:
            yield "root"
        else:
            yield "open"


class Fitting(unittest.TestCase):

    def test_examples(self):
        self.assertEqual(fit_recipe(HALF, 2), (2, (0, 1, 0), (0, 2, 0)))
        self.assertIsNone(fit_recipe(HALF, 1))
        self.assertEqual(fit_recipe(tosses=2, rational=HALF), fit_recipe(HALF, 2))

    def some_rationals(self):
        generator = make_generator(701)
        found = [*STAYING, *BEYOND, *ALMOST]
        for k in range(60):
            found.append(random_forms(generator, k % 5, generator.choice((1, 2, 3, 9))))
            parts = [random_polynomial(generator, generator.randint(1, 4), 1) for _ in range(2)]
            found.append(reduce_rational(*parts))
        return [q for q in found if q not in (ZERO, ONE)]

    def test_against_the_words(self):
        squeezed = 0
        for q in self.some_rationals():
            for m in (*range(13), 17, 24, 40):
                recipe = fit_recipe(q, m)
                self.assertEqual(recipe, plain_fit(q, m), (q, m))
                if recipe is not None:
                    self.assertIsNone(recipe_error(recipe))
                    self.assertEqual(recipe_probability(recipe), q)
                    squeezed += recipe[2][0] == 0 and recipe[2][-1] == 0
        self.assertGreater(squeezed, 20)

    def test_constants(self):
        for m in range(12):
            row = tuple(comb(m, k) for k in range(m + 1))
            self.assertEqual(fit_recipe(ZERO, m), (m, (0,) * (m + 1), row))
            self.assertEqual(fit_recipe(ONE, m), (m, row, row))

    def test_below_at_and_above_the_degree(self):
        q = ((0, 0, 0, 1), (1, -3, 3))
        self.assertEqual([fit_recipe(q, m) for m in range(3)], [None] * 3)
        self.assertEqual(fit_recipe(q, 3), (3, (0, 0, 0, 1), (1, 0, 0, 1)))
        self.assertEqual(fit_recipe(q, 4), (4, (0, 0, 0, 1, 1), (1, 1, 0, 1, 1)))

    def test_smallest_squeeze(self):
        # With one squeeze, two or three: one is taken.
        self.assertEqual(fit_recipe(HALF, 6), (6, (0, 1, 4, 6, 4, 1, 0), (0, 2, 8, 12, 8, 2, 0)))
        self.assertEqual(fit_recipe(P, 3), (3, (0, 1, 2, 1), (1, 3, 3, 1)))
        # The more tosses are needed, the more squeezes are.
        self.assertEqual(fit_recipe(((1,), (6,)), 4), (4, (0, 0, 1, 0, 0), (0, 0, 6, 0, 0)))


class Results(unittest.TestCase):

    def check_result(self, q, tosses, halvings):
        """Check the result by the words of promise 17, and return it."""
        result = synthesize(q, tosses=tosses, halvings=halvings)
        self.assertIs(type(result), tuple)
        recipe = plain_first(q, tosses)
        if recipe is not None:
            self.assertEqual(result, ("recipe", recipe))
            self.assertTrue(check_claim(("recipe", q, recipe), ()))
            return result
        self.assertNotEqual(result[0], "recipe")
        if result[0] == "unsettled":
            self.check_unsettled(q, halvings, *result[1:])
            return result
        word, certificate = result
        claim = (word, q) if word == "none" else (word, q, tosses)
        self.assertTrue(check_claim(claim, certificate), (claim, certificate))
        self.assertTrue(plain_check(claim, certificate))
        if word == "dear":
            self.assertIn(certificate, dear_candidates(q, tosses))
            self.assertEqual(self.stays(q), True)
        return result

    def stays(self, q):
        """Tell whether covers show that q stays inside."""
        results = [analyze_sign(part_of(q, which), halvings=60) for which in ("upper", "rest")]
        if any(result[0] != "cover" for result in results):
            return False
        return check_claim(("stays", q), ("covers", results[0][1], results[1][1]))

    def check_unsettled(self, q, halvings, which, a, b):
        self.assertIn(which, ("upper", "lower", "rest"))
        polynomial = part_of(q, which)
        start, end = Fraction(*a), Fraction(*b)
        self.assertEqual((a, b), ((start.numerator, start.denominator), (end.numerator, end.denominator)))
        self.assertEqual((end - start) * 2 ** halvings, 1)
        self.assertEqual((start * 2 ** halvings).denominator, 1)
        for p in (start, end):
            self.assertTrue(p in (0, 1) or plain_value(polynomial, p) > 0)
        numbers = plain_form(substitute_line(polynomial, start, end - start), len(polynomial) - 1)
        self.assertTrue(min(numbers) < 0 or not any(numbers))
        if halvings <= 5:
            words = [set(interval_words(part_of(q, part), halvings)) for part in ("upper", "rest")]
            for found in words:
                self.assertFalse(found & {"below", "root"}, (q, halvings))
            self.assertIn("open", words[0] | words[1])

    def test_examples(self):
        self.assertEqual(synthesize(P), ("recipe", (1, (0, 1), (1, 1))))
        self.assertEqual(synthesize(((1,), (5,)), tosses=1)[0], "dear")

    def test_defaults(self):
        for q in (*STAYING, *BEYOND[:12], *ALMOST):
            self.assertEqual(synthesize(q), synthesize(q, tosses=12, halvings=40))
            self.assertEqual(synthesize(rational=q, halvings=7, tosses=3), synthesize(q, tosses=3, halvings=7))
        self.assertRaises(TypeError, synthesize, P, 12)

    def test_constants(self):
        for tosses in (0, 1, 12, 40):
            for halvings in (0, 60):
                self.assertEqual(self.check_result(ZERO, tosses, halvings), ("recipe", (0, (0,), (1,))))
                self.assertEqual(self.check_result(ONE, tosses, halvings), ("recipe", (0, (1,), (1,))))

    def test_staying(self):
        for q in STAYING:
            for tosses in (0, 1, 2, 3, 5, 8, 12, 40):
                for halvings in (0, 1, 3, 14, 40, 60):
                    word = self.check_result(q, tosses, halvings)[0]
                    self.assertIn(word, ("recipe", "dear", "unsettled"))
                self.assertNotEqual(word, "unsettled")

    def test_arguments_are_in_lowest_terms(self):
        for q in (*STAYING, *BEYOND, *ALMOST):
            self.assertEqual(reduce_rational(*q), q)

    def test_beyond(self):
        for q in BEYOND:
            for halvings in (0, 1, 2, 5, 14, 40, 60):
                for tosses in (0, 12, 40):
                    word = self.check_result(q, tosses, halvings)[0]
                    self.assertIn(word, ("none", "unsettled"))
            self.assertEqual(word, "none")

    def test_almost_zero(self):
        words = set()
        for q in ALMOST:
            for halvings in (0, 1, 2, 3, 4, 5, 10, 40, 60):
                for tosses in (1, 7, 12):
                    words.add(self.check_result(q, tosses, halvings)[0])
        self.assertEqual(words, {"dear", "unsettled"})

    def test_unsettled_upper_does_not_hide_a_rest_that_is_negative(self):
        # Almost 0 at 1/3, and beyond 1 near 1, or at 3/4 alone.
        upper = almost((-1, 3), 10 ** 25)[0]
        for lower in (10 ** 25, 4 * 10 ** 25 - 1):
            for halvings in range(2, 7):
                q = reduce_rational(upper, (lower,))
                self.assertEqual(analyze_sign(q[0], halvings=halvings)[0], "unsettled")
                self.assertEqual(self.check_result(q, 12, halvings)[0], "none")
        rest = almost((-1, 3), 10 ** 25)
        q = reduce_rational(part_of((rest[0], (10 ** 25,)), "rest"), (10 ** 25,))
        self.assertEqual(self.check_result(q, 12, 6)[0], "none")

    def test_the_first_unsettled_interval_is_no_reason_to_stop(self):
        # Almost 0 at 1/3 and 0 at 2/3 or at 1 / sqrt 2; in another interval each time.
        for factor in ((-2, 3), (-1, 0, 2), (-5, 6)):
            upper = plain_product(almost((-1, 3), 10 ** 12)[0], square_of(factor))
            for halvings in (3, 4, 5, 9):
                for q in ((upper, (10 ** 30,)), (part_of((upper, (10 ** 30,)), "rest"), (10 ** 30,))):
                    self.assertEqual(self.check_result(reduce_rational(*q), 5, halvings)[0], "none")

    def test_random_forms(self):
        generator = make_generator(702)
        words = set()
        for k in range(60):
            q = random_forms(generator, k % 6, generator.choice((1, 2, 3, 9, 1000)))
            for tosses in (0, k % 6, 6, 9):
                for halvings in (0, 2, 40):
                    words.add(self.check_result(q, tosses, halvings)[0])
        self.assertTrue({"recipe", "dear"} <= words <= {"recipe", "dear", "unsettled"})

    def test_random_polynomials(self):
        generator = make_generator(703)
        words = set()
        for k in range(80):
            upper = random_polynomial(generator, generator.randint(1, 5), 1)
            lower = (*random_polynomial(generator, generator.randint(0, 5), 1), generator.randint(1, 60))
            for q in (reduce_rational(upper, lower), reduce_rational(square_of(upper), (900, *lower[1:]))):
                for tosses in (0, 4, 12):
                    for halvings in (0, 1, 3, 5, 40):
                        words.add(self.check_result(q, tosses, halvings)[0])
        self.assertEqual(words, {"recipe", "none", "dear", "unsettled"})

    def test_large(self):
        generator = make_generator(704)
        for size in (41, 20):
            q = reduce_rational(*[random_polynomial(generator, size, 60) for _ in range(2)])
            self.check_result(q, 12, 60)
            es = [generator.randint(1, 10 ** 40) for _ in range(size)]
            ds = [generator.randint(0, e) for e in es]
            q = reduce_rational(from_form(ds), from_form(es))
            self.assertEqual(self.check_result(q, 40, 40)[0], "dear")
            es = [generator.randint(0, comb(size - 1, k)) for k in range(size)]
            ds = [generator.randint(0, e) for e in es]
            q = reduce_rational(from_form(ds), from_form(es))
            self.assertEqual(self.check_result(q, 40, 40)[0], "recipe")


class Dear(unittest.TestCase):

    def certificate(self, q, tosses):
        result = synthesize(q, tosses=tosses)
        self.assertEqual(result[0], "dear")
        self.assertTrue(check_claim(("dear", q, tosses), result[1]))
        return result[1]

    def test_short(self):
        for q, degree in ((P, 1), (((0, 0, 0, 1), (1, -3, 3)), 3), (((1, -1, 1), (1, 1)), 2)):
            for tosses in range(degree):
                self.assertEqual(self.certificate(q, tosses), ("short",))

    def test_signs(self):
        # The form of 1 - 3 p + 3 p^2 is (1, -1, 1), and raised once (1, 0, 0, 1).
        q = ((1, -3, 3), (4,))
        self.assertEqual(self.certificate(q, 2), ("signs", "upper", 1))
        self.assertEqual(synthesize(q, tosses=12)[0], "recipe")
        rest = ((3, 3, -3), (4,))
        self.assertEqual(self.certificate(rest, 2), ("signs", "rest", 1))
        longer = ((5, -24, 29), (40,))
        self.assertEqual(self.certificate(longer, 12)[:2], ("signs", "upper"))

    def test_room(self):
        self.assertEqual(self.certificate(((1,), (7,)), 4), ("room", 0, "upper", 0, 2))
        self.assertEqual(synthesize(((1,), (6,)), tosses=4)[0], "recipe")
        for q in (((1, -3, 3), (100,)), ((99, 3, -3), (100,))):
            kinds = [self.certificate(q, tosses)[0] for tosses in range(2, 8)]
            self.assertEqual(kinds, ["signs"] + ["room"] * 5)
            word, raised_times, which = self.certificate(q, 7)[:3]
            self.assertEqual((word, raised_times), ("room", 1))
            self.assertEqual(which, "upper" if q[0][0] == 1 else "rest")

    def test_last_count_before_a_recipe(self):
        for q in (*STAYING, THIRD, ((1,), (100,)), ((9, -24, 17), (20,))):
            counts = [m for m in range(41) if fit_recipe(q, m) is not None]
            if counts:
                first = counts[0]
                for tosses in range(max(0, first - 3), first):
                    self.certificate(q, tosses)
                self.assertEqual(synthesize(q, tosses=first), ("recipe", fit_recipe(q, first)))

    def test_none_is_accepted_for_what_fits(self):
        generator = make_generator(705)
        rationals = [*STAYING, *[random_forms(generator, k % 4, 3) for k in range(20)]]
        certificates = [("short",)]
        for q in rationals:
            for tosses in range(9):
                result = synthesize(q, tosses=tosses)
                if result[0] == "dear":
                    certificates.append(result[1])
        for q in rationals:
            for m in range(9):
                if fit_recipe(q, m) is not None:
                    for certificate in certificates:
                        self.assertFalse(check_claim(("dear", q, m), certificate), (q, m, certificate))

    def test_changed_certificates_agree_with_the_words(self):
        for q in (((1, -3, 3), (100,)), ((1,), (7,)), ((3, 3, -3), (4,))):
            for tosses in (2, 3, 4):
                certificate = self.certificate(q, tosses)
                for changed in list_changes(certificate):
                    claim = ("dear", q, tosses)
                    self.assertIs(check_claim(claim, changed), plain_check(claim, changed))


class Contradictions(unittest.TestCase):

    def test_none_and_stays_and_recipe(self):
        recipes = [synthesize(q, tosses=40) for q in STAYING]
        covers = [
            ("covers", *[analyze_sign(part_of(q, which))[1] for which in ("upper", "rest")]) for q in STAYING
        ]
        for q in BEYOND:
            for certificate in covers:
                self.assertFalse(check_claim(("stays", q), certificate))
            for result in recipes:
                if result[0] == "recipe":
                    self.assertFalse(check_claim(("recipe", q, result[1]), ()))
        nones = [synthesize(q)[1] for q in BEYOND]
        for q in (*STAYING, ZERO, ONE):
            for certificate in nones:
                self.assertFalse(check_claim(("none", q), certificate))

    def test_recipes_may_be_composed(self):
        # What fits stays what it is, whatever the coin: the value at 1 - p is that of the swapped recipe.
        for q in STAYING:
            result = synthesize(q, tosses=40)
            if result[0] == "recipe":
                m, ds, es = result[1]
                other = synthesize(compose_rationals(q, ((1, -1), (1,))), tosses=40)
                self.assertEqual(other, ("recipe", (m, ds[::-1], es[::-1])))


class Powers(unittest.TestCase):

    def test_somewhat_more_than_forty_tosses(self):
        # With 42 tosses and 21 squeezes, its one entry is as large as there are rows.
        q = ((1,), (comb(42, 21),))
        self.assertEqual(synthesize(q, tosses=41)[0], "dear")
        self.assertEqual(synthesize(q, tosses=44)[1][0], 42)

    def test_degrees(self):
        for n in (1, 5, 12, 13, 40):
            q = (power((0, 1), n), (1,))
            due = "recipe" if n <= 12 else "dear"
            self.assertEqual(synthesize(q)[0], due)
            self.assertEqual(synthesize(q, tosses=40)[1], (n, (*[0] * n, 1), tuple(comb(n, k) for k in range(n + 1))))


if __name__ == "__main__":
    unittest.main()
