"""Promise 7: covers, root certificates, and what analyze_sign returns."""

import unittest
from fractions import Fraction

from bentcoin.checker import check_claim
from bentcoin.covers import is_cover, is_root
from bentcoin.signs import analyze_sign
from tests.changes import ANY, list_changes
from tests.helpers import (
    make_generator, plain_common_divisor, plain_divide, plain_product, plain_value, power,
    random_polynomial,
)
from tests.plain_checker import Wrong, plain_form, read_cover, read_interior, root_of, substitute_line

HALVINGS = (0, 1, 14, 40, 60)
CLOSE = plain_product((-500000001, 10 ** 9 - 1), (-500000002, 10 ** 9 - 1))
POSITIVE = (
    (1,), (10 ** 60 - 1,), (1, 1), (0, 1), (1, -1), (0, 1, -1), (0, 0, 0, 5), (1, -3, 3), (3, -4, 2),
    (1, -3, 3, 0, 0, 1), power((1, -1), 7), power((1, -3, 3), 6), (10 ** 59, -1), (2, -1, -1),
    plain_product((0, 0, 1), power((1, -3, 3), 2)),
    # Almost 0 at 1/3 and at 2/3, so that several intervals are left.
    plain_product((10001, -60000, 90000), (40001, -120000, 90000)),
)
NEGATIVE = (
    (-1,), (-(10 ** 60 - 1),), (0, -1), (-1, 1), (-1, 2), (0, -1, 1), (1, -5, 5), (-1, 10 ** 60 - 1),
    (10 ** 60 - 2, 1 - 10 ** 60), (0, 0, -1, 2), plain_product((1, -3), (1, -4)), CLOSE,
    plain_product(CLOSE, (1, -3, 3)), (-1, 0, 3), (5, -30, 44),
)
SQUARED = (
    (-1, 2), (-1, 3), (-2, 7), (-1, 0, 2), (1, -5, 5), (-1, 10 ** 9 - 1), (-1, 1, 1), (2, -10, 9),
    plain_product((-1, 2), (-1, 3)), plain_product((-1, 3), (-2, 3)), (1 - 10 ** 29, 10 ** 29),
    plain_product((-1, 10 ** 30), (-1, 3)), CLOSE,
)


def squarefree(polynomial):
    """Return the polynomial divided by its common divisor with its derivative, with Fractions."""
    derivative = [k * c for k, c in enumerate(polynomial)][1:]
    if not any(derivative):
        return list(polynomial)
    return plain_divide(polynomial, plain_common_divisor(polynomial, derivative))[0]


class Results(unittest.TestCase):

    def check_result(self, polynomial, halvings):
        """Check the result by the words of promise 7, and return it."""
        result = analyze_sign(polynomial, halvings=halvings)
        self.assertIs(type(result), tuple)
        check = {
            "cover": self.check_cover, "below": self.check_below, "root": self.check_root,
            "unsettled": lambda *parts: self.check_unsettled(halvings, *parts),
        }
        check[result[0]](polynomial, *result[1:])
        return result

    def check_cover(self, polynomial, cover):
        read_cover(polynomial, cover)
        self.assertTrue(is_cover(polynomial, cover))

    def check_below(self, polynomial, p):
        self.assertLess(plain_value(polynomial, read_interior(p)), 0)

    def check_root(self, polynomial, divisor, left, right):
        root_of(polynomial, divisor, left, right)
        self.assertTrue(is_root(polynomial, divisor, left, right))

    def check_unsettled(self, halvings, polynomial, a, b):
        start, end = Fraction(*a), Fraction(*b)
        self.assertEqual((a, b), ((start.numerator, start.denominator), (end.numerator, end.denominator)))
        self.assertEqual((start * 2 ** halvings).denominator, 1)
        self.assertEqual((end - start) * 2 ** halvings, 1)
        self.assertTrue(0 <= start and end <= 1)
        for p in (start, end):
            self.assertTrue(p in (0, 1) or plain_value(polynomial, p) > 0)
        numbers = plain_form(substitute_line(polynomial, start, end - start), len(polynomial) - 1)
        self.assertTrue(min(numbers) < 0 or not any(numbers))
        part = squarefree(polynomial)
        self.assertGreaterEqual(plain_value(part, start) * plain_value(part, end), 0)

    def test_example(self):
        self.assertEqual(analyze_sign((1, 1))[0], "cover")

    def test_forty_halvings_are_the_default(self):
        for polynomial in (*POSITIVE, *NEGATIVE, (1, -6, 9), (1, 0, -4, 0, 4)):
            self.assertEqual(analyze_sign(polynomial), analyze_sign(polynomial, halvings=40))
        self.assertEqual(analyze_sign(polynomial=(1, 1), halvings=3)[0], "cover")
        self.assertRaises(TypeError, analyze_sign, (1, 1), 40)

    def test_positive(self):
        for polynomial in POSITIVE:
            for halvings in HALVINGS:
                result = self.check_result(polynomial, halvings)
                self.assertIn(result[0], ("cover", "unsettled"))
            self.assertEqual(result[0], "cover", polynomial)

    def test_negative_somewhere(self):
        for polynomial in NEGATIVE:
            for halvings in HALVINGS:
                self.assertNotEqual(self.check_result(polynomial, halvings)[0], "cover")
            self.assertIn(result_word(polynomial, 60), ("below", "root"))

    def test_ends_have_the_sign_beside_them(self):
        # A polynomial that is 0 at 0 or 1 may be of either sign beside it.
        for polynomial in ((0, -1, 10 ** 20), plain_product((1, -1), (-1, 2)), (0, 0, -1, 10 ** 40)):
            self.assertEqual(self.check_result(polynomial, 0)[0], "below")
        for polynomial in ((0, 1), (1, -1), (0, 1, -1), (0, 0, 3, -3)):
            self.assertEqual(self.check_result(polynomial, 0), ("cover", ((0, 1), (1, 1))))

    def test_squares_with_a_root(self):
        for factor in SQUARED:
            for other in ((1,), (3,), (1, 1), (1, -3, 3), (0, 1), (1, -1)):
                polynomial = plain_product(plain_product(factor, factor), other)
                for halvings in HALVINGS:
                    result = self.check_result(polynomial, halvings)
                    self.assertNotIn(result[0], ("cover", "below"))
                self.assertEqual(result_word(polynomial, 40), "root")

    def test_opposite_signs_are_never_left_unsettled(self):
        # The squarefree part changes its sign in the one interval of no halvings, up to an end.
        for factor in ((-1, 3), (-1, 10 ** 30 - 1), (10 ** 30 - 2, 1 - 10 ** 30), (-1, 0, 3)):
            polynomial = plain_product(factor, factor)
            for halvings in (0, 1, 2, 3):
                self.assertEqual(self.check_result(polynomial, halvings)[0], "root")

    def test_root_in_the_middle_of_an_interval(self):
        for halvings in (0, 1, 2, 3, 40):
            for factor in ((-5, 8), (-1, 8), (-7, 8), (-15, 16)):
                self.assertEqual(self.check_result(power(factor, 2), halvings)[0], "root")

    def test_random(self):
        generator = make_generator(111)
        for _ in range(60):
            factor = random_polynomial(generator, generator.randint(1, 4), generator.choice((1, 5)))
            other = random_polynomial(generator, generator.randint(1, 4), 1)
            for polynomial in (factor, plain_product(factor, factor), plain_product(factor, other)):
                for halvings in HALVINGS:
                    self.check_result(polynomial, halvings)

    def test_truth_by_sampling(self):
        generator = make_generator(112)
        points = [Fraction(k, 97) for k in range(1, 97)]
        for _ in range(60):
            polynomial = random_polynomial(generator, generator.randint(1, 7), 1)
            values = [plain_value(polynomial, p) for p in points]
            word = result_word(polynomial, 40)
            if min(values) < 0:
                self.assertIn(word, ("below", "root"))
            if word == "cover":
                self.assertGreater(min(values), 0)

    def test_large(self):
        generator = make_generator(113)
        for size in (20, 41):
            polynomial = random_polynomial(generator, size, 60)
            self.check_result(polynomial, 60)
            lifted = tuple(abs(c) for c in polynomial)
            self.assertEqual(self.check_result(lifted, 60)[0], "cover")
        # All roots but for a double one are far away, and that one is almost real.
        almost = (10 ** 30 + 1, -6 * 10 ** 30, 9 * 10 ** 30)
        self.assertEqual(result_word(power(almost, 6), 60), "cover")
        self.assertIn(self.check_result(almost, 40)[0], ("cover", "unsettled"))

    def test_long_square_of_roots_side_by_side(self):
        factor = plain_product(power((3, -7, 10), 8), plain_product((-1, 3), (-333333334, 10 ** 9 - 7)))
        self.assertEqual(self.check_result(plain_product(factor, factor), 40)[0], "root")


def result_word(polynomial, halvings):
    return analyze_sign(polynomial, halvings=halvings)[0]


class CoversAndRoots(unittest.TestCase):

    def plain_cover(self, polynomial, value):
        try:
            read_cover(polynomial, value)
        except Wrong:
            return False
        return True

    def test_covers_changed_at_one_place(self):
        for polynomial, cover in (
            ((1, -3, 3), ((0, 1), (1, 2), (1, 1))), ((0, 1), ((0, 1), (1, 1))),
            ((1, -4, 5), ((0, 1), (1, 4), (1, 2), (3, 4), (1, 1))),
        ):
            self.assertTrue(is_cover(polynomial, cover))
            for changed in (*list_changes(cover), *ANY):
                self.assertEqual(is_cover(polynomial, changed), self.plain_cover(polynomial, changed))

    def test_cover_needs_positive_points(self):
        # No interval number is negative on either side of the double root at 1/2.
        self.assertFalse(is_cover((1, -4, 4), ((0, 1), (1, 2), (1, 1))))
        self.assertFalse(is_cover((), ((0, 1), (1, 1))))
        self.assertFalse(is_cover((-1,), ((0, 1), (1, 1))))
        self.assertFalse(is_cover((1, -3, 3), ((0, 1), (1, 1))))

    def test_root_certificates(self):
        square = (1, -4, 4)
        self.assertTrue(is_root(square, (-1, 2), (1, 2), (1, 2)))
        self.assertTrue(is_root(square, square, (1, 2), (1, 2)))
        self.assertTrue(is_root(square, (-1, 2), (1, 3), (2, 3)))
        self.assertTrue(is_root(square, (1, -2), (1, 3), (2, 3)))
        for divisor, left, right in (
            ((-1, 2), (2, 3), (1, 3)), (square, (1, 3), (2, 3)), ((-1, 2), (1, 2), (2, 3)),
            ((-1, 2), (1, 3), (1, 2)), ((-2, 4), (1, 2), (1, 2)), ((-1, 2), (0, 1), (2, 3)),
            ((-1, 2), (1, 3), (1, 1)), ((-1, 3), (1, 3), (1, 3)), ((1,), (1, 2), (1, 2)), ((), (1, 2), (1, 2)),
            ((-1, 2), (2, 4), (2, 4)), ((-1, 2), (1, 3), (1, 3)),
        ):
            self.assertFalse(is_root(square, divisor, left, right), (divisor, left, right))

    def test_contradicting_results_are_not_accepted(self):
        for polynomial in (*POSITIVE, *NEGATIVE):
            whole = (polynomial, (10 ** 70,))
            result = analyze_sign(polynomial)
            if result[0] == "cover":
                self.assertTrue(check_claim(("stays", whole), ("covers", result[1], ((0, 1), (1, 1)))))
            if result[0] == "root":
                self.assertTrue(check_claim(("none", whole), ("root", "upper", *result[1:])))


if __name__ == "__main__":
    unittest.main()
