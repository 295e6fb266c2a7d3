"""Promise 4: fractions and polynomials."""

import unittest
from math import gcd

from bentcoin.polynomials import (
    add_polynomials, divide_exactly, evaluate_polynomial, multiply_polynomials,
    subtract_polynomials,
)
from tests.helpers import (
    POINTS, as_fraction, make_generator, plain_product, plain_value, random_polynomial, trim,
)

BIG = 10 ** 60 - 1


def pad(polynomial, size):
    return list(polynomial) + [0] * (size - len(polynomial))


def pairs_of_polynomials(number):
    """Return pairs of many sizes, the largest and () among them."""
    generator = make_generator(number)
    sizes = [(0, 0), (0, 5), (5, 0), (1, 1), (41, 41), (41, 1), (1, 41), (41, 40), (3, 17)]
    sizes += [(generator.randint(0, 12), generator.randint(0, 12)) for _ in range(40)]
    return [
        (random_polynomial(generator, a, digits), random_polynomial(generator, b, digits))
        for a, b in sizes for digits in (1, 60)
    ]


class Checks(unittest.TestCase):

    def check_is_polynomial(self, value):
        self.assertIs(type(value), tuple)
        for c in value:
            self.assertIs(type(c), int)
        if value:
            self.assertNotEqual(value[-1], 0)

    def check_is_fraction(self, value):
        self.assertIs(type(value), tuple)
        n, d = value
        self.assertIs(type(n), int)
        self.assertIs(type(d), int)
        self.assertGreater(d, 0)
        self.assertEqual(gcd(n, d), 1)


class Sums(Checks):

    def test_examples(self):
        self.assertEqual(add_polynomials((1, 2), (3, -2)), (4,))
        self.assertEqual(subtract_polynomials((1, 2, 3), (0, 0, 3)), (1, 2))

    def test_every_coefficient(self):
        for one, other in pairs_of_polynomials(1):
            size = max(len(one), len(other))
            wide = list(zip(pad(one, size), pad(other, size)))
            added = add_polynomials(one, other)
            self.check_is_polynomial(added)
            self.assertEqual(added, trim(a + b for a, b in wide))
            lessened = subtract_polynomials(one, other)
            self.check_is_polynomial(lessened)
            self.assertEqual(lessened, trim(a - b for a, b in wide))

    def test_zero_as_argument(self):
        self.assertEqual(add_polynomials((), ()), ())
        self.assertEqual(subtract_polynomials((), ()), ())
        self.assertEqual(add_polynomials((), (0, 1)), (0, 1))
        self.assertEqual(add_polynomials((0, 1), ()), (0, 1))
        self.assertEqual(subtract_polynomials((), (0, 1)), (0, -1))
        self.assertEqual(subtract_polynomials((0, 1), ()), (0, 1))

    def test_no_zeros_at_the_end(self):
        self.assertEqual(add_polynomials((1, 2, 3), (1, -2, -3)), (2,))
        self.assertEqual(subtract_polynomials((1, 0, 3, BIG), (0, 0, 3, BIG)), (1,))
        self.assertEqual(add_polynomials((0, 0, 5, 1), (0, 0, 0, -1)), (0, 0, 5))

    def test_everything_cancels(self):
        one = (BIG,) * 41
        self.assertEqual(add_polynomials(one, (-BIG,) * 41), ())
        self.assertEqual(subtract_polynomials(one, one), ())

    def test_sum_of_largest(self):
        self.assertEqual(add_polynomials((BIG,) * 41, (BIG,) * 41), (2 * BIG,) * 41)


class Products(Checks):

    def test_example(self):
        self.assertEqual(multiply_polynomials((1, 1), (1, -1)), (1, 0, -1))

    def test_every_coefficient(self):
        for one, other in pairs_of_polynomials(2):
            product = multiply_polynomials(one, other)
            self.check_is_polynomial(product)
            self.assertEqual(product, plain_product(one, other))

    def test_zero_as_argument(self):
        self.assertEqual(multiply_polynomials((), ()), ())
        self.assertEqual(multiply_polynomials((), (1, 2, 3)), ())
        self.assertEqual(multiply_polynomials((1, 2, 3), ()), ())

    def test_signs_and_gaps(self):
        self.assertEqual(multiply_polynomials((0, 0, -2), (-3, 0, 1)), (0, 0, 6, 0, -2))
        self.assertEqual(multiply_polynomials((-1,), (5, -6)), (-5, 6))

    def test_long_with_largest_and_smallest_coefficients(self):
        # From about a thousand products of coefficients on, long polynomials go another way.
        for one, other in ((31, 32), (32, 32), (41, 41), (1, 1200), (200, 7), (300, 300)):
            for first in (2 ** 60 - 1, -(2 ** 60 - 1), 1, -1):
                for second in (2 ** 31 - 1, -1):
                    pair = ((first,) * one, (second,) * other)
                    self.assertEqual(multiply_polynomials(*pair), plain_product(*pair))
        generator = make_generator(5)
        for sizes in ((33, 33), (41, 60), (100, 11)):
            pair = [random_polynomial(generator, size, 9) for size in sizes]
            self.assertEqual(multiply_polynomials(*pair), plain_product(*pair))
        self.assertEqual(multiply_polynomials((1,) * 2000, ()), ())

    def test_largest(self):
        product = multiply_polynomials((BIG,) * 41, (-BIG,) * 41)
        self.assertEqual(len(product), 81)
        self.assertEqual(product[0], -BIG * BIG)
        self.assertEqual(product[40], -41 * BIG * BIG)
        self.assertEqual(product[80], -BIG * BIG)


class Values(Checks):

    def test_example(self):
        self.assertEqual(evaluate_polynomial((1, 0, 2), (1, 3)), (11, 9))

    def test_chosen_points(self):
        self.assertEqual(evaluate_polynomial((3, 4, 5), (0, 1)), (3, 1))
        self.assertEqual(evaluate_polynomial((3, 4, 5), (1, 1)), (12, 1))
        self.assertEqual(evaluate_polynomial((3, 4, 6), (1, 2)), (13, 2))
        self.assertEqual(evaluate_polynomial((0, 1), (-2, 3)), (-2, 3))
        self.assertEqual(evaluate_polynomial((1, 1), (7, 2)), (9, 2))
        self.assertEqual(evaluate_polynomial((0, 0, 4), (-1, 2)), (1, 1))
        self.assertEqual(evaluate_polynomial((-7,), (3, 5)), (-7, 1))

    def test_value_zero(self):
        self.assertEqual(evaluate_polynomial((1, -2), (1, 2)), (0, 1))
        self.assertEqual(evaluate_polynomial((0, 1, 1), (0, 1)), (0, 1))

    def test_zero_polynomial(self):
        for p in POINTS:
            self.assertEqual(evaluate_polynomial((), p), (0, 1))

    def test_values(self):
        for one, other in pairs_of_polynomials(3):
            for polynomial in (one, other):
                for p in POINTS:
                    value = evaluate_polynomial(polynomial, p)
                    self.check_is_fraction(value)
                    self.assertEqual(value, as_fraction(plain_value(polynomial, p)))


class Quotients(Checks):

    def test_examples(self):
        self.assertEqual(divide_exactly((1, 0, -1), (1, 1)), (1, -1))
        self.assertIsNone(divide_exactly((1, 1), (2,)))

    def test_factor_of_product(self):
        for one, other in pairs_of_polynomials(4):
            if not other:
                continue
            quotient = divide_exactly(plain_product(one, other), other)
            self.check_is_polynomial(quotient)
            self.assertEqual(quotient, one)

    def test_low_coefficients_zero(self):
        self.assertEqual(divide_exactly((0, 0, 0, 1, 1), (0, 0, 1)), (0, 1, 1))
        self.assertEqual(divide_exactly((0, 0, 6, 3), (0, 3)), (0, 2, 1))
        self.assertEqual(divide_exactly((0, 0, 0, -4), (0, 2)), (0, 0, -2))

    def test_inner_coefficients_of_quotient_zero(self):
        self.assertEqual(divide_exactly((-1, 0, 0, 0, 1), (-1, 0, 1)), (1, 0, 1))
        self.assertEqual(divide_exactly((1, 2, 0, 0, 1, 2), (1, 2)), (1, 0, 0, 0, 1))

    def test_leaves_a_rest(self):
        self.assertIsNone(divide_exactly((1, 0, 1), (1, 1)))
        self.assertIsNone(divide_exactly((1, 1), (0, 1)))
        self.assertIsNone(divide_exactly((2, 0, -1), (1, 1)))

    def test_rest_after_any_product(self):
        for one, other in pairs_of_polynomials(5):
            if len(other) > 1:
                product = pad(plain_product(one, other), 1)
                product[0] += 1
                self.assertIsNone(divide_exactly(trim(product), other))

    def test_quotient_has_broken_coefficients(self):
        self.assertIsNone(divide_exactly((1, 1), (-2,)))
        self.assertIsNone(divide_exactly((1, 3, 2), (2, 2)))
        self.assertIsNone(divide_exactly((2, 3), (2,)))
        self.assertIsNone(divide_exactly((3, 2), (2,)))
        self.assertIsNone(divide_exactly((2, 5, 2), (2, 4)))

    def test_integer_divisor(self):
        self.assertEqual(divide_exactly((2, -4), (2,)), (1, -2))
        self.assertEqual(divide_exactly((2, -4), (-2,)), (-1, 2))
        self.assertEqual(divide_exactly((5, 7), (1,)), (5, 7))

    def test_dividend_is_shorter(self):
        self.assertIsNone(divide_exactly((1,), (1, 1)))
        self.assertIsNone(divide_exactly((1, 1), (1, 1, 1)))
        self.assertIsNone(divide_exactly((0, 5), (0, 0, 5)))

    def test_zero_dividend(self):
        for other in ((1,), (-2,), (0, 1), (1, 1, 1), (BIG,) * 41):
            self.assertEqual(divide_exactly((), other), ())

    def test_equal(self):
        self.assertEqual(divide_exactly((3, 0, -6), (3, 0, -6)), (1,))
        self.assertEqual(divide_exactly((BIG,) * 41, (BIG,) * 41), (1,))


class Arguments(unittest.TestCase):

    def test_by_position_and_by_name(self):
        one, other = (1, 2, 1), (1, 1)
        for function in (add_polynomials, subtract_polynomials, multiply_polynomials):
            named = function(other=other, one=one)
            self.assertEqual(named, function(one, other))
            self.assertEqual(function(one, other=other), named)
        named = evaluate_polynomial(p=(2, 3), polynomial=one)
        self.assertEqual(named, evaluate_polynomial(one, (2, 3)))
        self.assertEqual(named, (25, 9))
        self.assertEqual(divide_exactly(other=other, polynomial=one), divide_exactly(one, other))
        self.assertEqual(divide_exactly(other=other, polynomial=one), (1, 1))

    def test_same_result_again(self):
        # Tuples cannot be changed; what a function kept would show in a second call.
        for one, other in pairs_of_polynomials(6)[:20]:
            first = multiply_polynomials(one, other)
            multiply_polynomials(other, (1, 1))
            self.assertEqual(multiply_polynomials(one, other), first)


if __name__ == "__main__":
    unittest.main()
