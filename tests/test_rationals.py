"""Promise 5: rational functions."""

import unittest
from fractions import Fraction
from math import gcd

from bentcoin.divisors import common_divisor
from bentcoin.errors import UndefinedValue, ZeroDenominator
from bentcoin.polynomials import add_polynomials, multiply_polynomials
from bentcoin.rationals import (
    add_rationals, compose_rationals, evaluate_rational, multiply_rationals, reduce_rational,
    subtract_rationals,
)
from tests.helpers import (
    POINTS, as_fraction, make_generator, plain_common_divisor, plain_product, plain_reduce,
    plain_value, power, random_polynomial, random_rational,
)

ZERO = ((), (1,))
ONE = ((1,), (1,))
P = ((0, 1), (1,))
REST = ((1, -1), (1,))


class Checks(unittest.TestCase):

    def check_lowest_terms(self, rational):
        """Check the three rules of promise 5 by Euclid's algorithm over the Fractions."""
        self.assertIs(type(rational), tuple)
        upper, lower = rational
        for part in rational:
            self.assertIs(type(part), tuple)
            self.assertTrue(all(type(c) is int for c in part))
            self.assertTrue(not part or part[-1] != 0)
        self.assertNotEqual(lower, ())
        self.assertEqual(gcd(*upper, *lower), 1)
        self.assertGreater([c for c in lower if c != 0][0], 0)
        if upper:
            self.assertEqual(len(plain_common_divisor(upper, lower)), 1)
        else:
            self.assertEqual(rational, ZERO)

    def check_reduced(self, upper, lower):
        reduced = reduce_rational(upper, lower)
        self.check_lowest_terms(reduced)
        self.assertEqual(plain_product(upper, reduced[1]), plain_product(lower, reduced[0]))
        return reduced


class Reduction(Checks):

    def test_examples(self):
        self.assertEqual(reduce_rational((2, 2), (4, 0, -4)), ((1,), (2, -2)))
        with self.assertRaises(ZeroDenominator):
            reduce_rational((1,), ())

    def test_zero_denominator(self):
        for upper in ((), (1,), (0, 1), (5, -5, 1)):
            self.assertRaises(ZeroDenominator, reduce_rational, upper, ())

    def test_zero_numerator(self):
        for lower in ((1,), (-1,), (7,), (0, 0, -3), (1, 1), (2, 4)):
            self.assertEqual(reduce_rational((), lower), ZERO)

    def test_common_factor_of_one_coefficient(self):
        self.assertEqual(reduce_rational((6,), (4,)), ((3,), (2,)))
        self.assertEqual(reduce_rational((6, 12), (9, 0, 3)), ((2, 4), (3, 0, 1)))
        self.assertEqual(reduce_rational((-6, 12), (-9,)), ((2, -4), (3,)))

    def test_common_integer_in_coefficients_only_together(self):
        self.assertEqual(reduce_rational((4, 6), (9, 3)), ((4, 6), (9, 3)))
        self.assertEqual(reduce_rational((4, 6), (10, 4)), ((2, 3), (5, 2)))

    def test_common_power_of_p(self):
        self.assertEqual(reduce_rational((0, 0, 1), (0, 1)), P)
        self.assertEqual(reduce_rational((0, 1), (0, 0, 1)), ((1,), (0, 1)))
        self.assertEqual(reduce_rational((0, 2, 2), (0, 0, 4)), ((1, 1), (0, 2)))

    def test_common_factor_of_many_coefficients(self):
        factor = (3, 0, -1, 7, 2)
        upper = plain_product(factor, (1, 2, 3))
        lower = plain_product(factor, (5, 0, 0, 1))
        self.assertEqual(reduce_rational(upper, lower), ((1, 2, 3), (5, 0, 0, 1)))

    def test_common_factor_is_repeated(self):
        upper = plain_product(power((1, -1), 5), (2, 1))
        lower = plain_product(power((1, -1), 3), (3, 1))
        expected = (plain_product(power((1, -1), 2), (2, 1)), (3, 1))
        self.assertEqual(reduce_rational(upper, lower), expected)

    def test_factor_with_common_integer(self):
        upper = plain_product((2, 4), (3, 3))
        lower = plain_product((6, 12), (5, 1))
        self.assertEqual(reduce_rational(upper, lower), ((1, 1), (5, 1)))

    def test_one_divides_the_other(self):
        self.assertEqual(reduce_rational((1, 0, -1), (1, 1)), ((1, -1), (1,)))
        self.assertEqual(reduce_rational((1, 1), (1, 0, -1)), ((1,), (1, -1)))
        self.assertEqual(reduce_rational((1, 2), (2, 5, 2)), ((1,), (2, 1)))

    def test_equal(self):
        for polynomial in ((1,), (-7,), (0, 3), (1, -1), (0, -2, 4)):
            self.assertEqual(reduce_rational(polynomial, polynomial), ONE)
            minus = tuple(-c for c in polynomial)
            self.assertEqual(reduce_rational(polynomial, minus), ((-1,), (1,)))

    def test_sign_of_denominator(self):
        self.assertEqual(reduce_rational((1,), (-2, 1)), ((-1,), (2, -1)))
        self.assertEqual(reduce_rational((1, 1), (0, -1)), ((-1, -1), (0, 1)))
        self.assertEqual(reduce_rational((-1,), (0, 0, -3, 5)), ((1,), (0, 0, 3, -5)))
        self.assertEqual(reduce_rational((1,), (2, -1)), ((1,), (2, -1)))
        self.assertEqual(reduce_rational((1,), (0, 2, -1)), ((1,), (0, 2, -1)))
        # The sign changes with the common factor: (-1 - p) (1 - p) below, (1 + p) above.
        self.assertEqual(reduce_rational((1, 1), (-1, 0, 1)), ((-1,), (1, -1)))

    def test_nothing_in_common(self):
        for upper, lower in (((1,), (1,)), ((0, 1), (2, -1)), ((5, 1), (3, 1)), ((2,), (1, 1))):
            self.assertEqual(reduce_rational(upper, lower), (upper, lower))

    def test_values_with_a_common_factor_in_powers_of_two(self):
        # Numbers that read p as a power of 2 have much in common here, the polynomials nothing.
        for upper, lower in (
            ((0,) * 40 + (1,), (2 ** 100, 1)),
            ((0,) * 20 + (1,), power((2, -1), 20)),
            (power((4, 1), 20), power((2, 1), 20)),
            ((2 ** 199, 2 ** 90 + 1), (2 ** 150, 1)),
        ):
            self.assertEqual(reduce_rational(upper, lower), (upper, lower))

    def test_values_with_a_large_common_factor(self):
        # The values at 2^bits are both divisible by 2^bits + 16, the polynomials have nothing
        # in common: the second is 0 at -16 only up to a multiple of that number.
        short = (16, 1)
        for bits in range(8, 90):
            for size in (20, 39, 40, 41):
                long = self.make_multiple_at_minus_16((1 << bits) + 16, size)
                self.assertNotEqual(plain_value(long, (-16, 1)), 0)
                self.assertEqual(reduce_rational(short, long), (short, long))
                self.assertEqual(reduce_rational(long, short), (long, short))

    def make_multiple_at_minus_16(self, number, size):
        """Return a polynomial whose value at -16 is a multiple of the number, if that is small."""
        value = (-16) ** (size - 1) * 8
        value -= value % number
        digits = []
        while value != 0:
            digits.append(value % 16)
            value = (value - digits[-1]) // -16
        if digits[0] == 0:
            digits[0] = 16
            digits[1] += 1
        return tuple(digits)

    def test_random_pairs(self):
        generator = make_generator(11)
        for _ in range(150):
            sizes = [generator.randint(1, 6) for _ in range(3)]
            upper, lower, factor = [random_polynomial(generator, s, 2) for s in sizes]
            upper, lower = plain_product(upper, factor), plain_product(lower, factor)
            self.assertEqual(self.check_reduced(upper, lower), plain_reduce(upper, lower))

    def test_thirty_coefficients_with_common_factor_of_ten(self):
        generator = make_generator(12)
        for digits in (1, 3, 25):
            factor = random_polynomial(generator, 10, digits)
            upper, lower = [random_polynomial(generator, 21, digits) for _ in range(2)]
            upper, lower = plain_product(upper, factor), plain_product(lower, factor)
            self.assertEqual(len(upper), 30)
            reduced = self.check_reduced(upper, lower)
            self.assertLessEqual(max(len(reduced[0]), len(reduced[1])), 21)

    def test_coefficients_of_many_digits(self):
        generator = make_generator(13)
        for digits, size in ((25, 15), (25, 30), (60, 12)):
            upper, lower = [random_polynomial(generator, size, digits) for _ in range(2)]
            self.check_reduced(upper, lower)

    def test_largest_arguments(self):
        generator = make_generator(14)
        factor, upper, lower = [random_polynomial(generator, 21, 29) for _ in range(3)]
        pair = reduce_rational(multiply_polynomials(upper, factor), multiply_polynomials(lower, factor))
        self.assertEqual(pair, reduce_rational(upper, lower))
        upper, lower = [random_polynomial(generator, 41, 60) for _ in range(2)]
        self.assertEqual(len(reduce_rational(upper, lower)[1]), 41)

    def test_equal_cross_products(self):
        generator = make_generator(15)
        for _ in range(60):
            upper = random_polynomial(generator, generator.randint(0, 6), 3)
            lower = random_polynomial(generator, generator.randint(1, 6), 3)
            first = random_polynomial(generator, generator.randint(1, 5), 3)
            second = random_polynomial(generator, generator.randint(1, 5), 3)
            one = reduce_rational(plain_product(upper, first), plain_product(lower, first))
            other = reduce_rational(plain_product(upper, second), plain_product(lower, second))
            self.assertEqual(one, other)

    def test_reducing_again_changes_nothing(self):
        generator = make_generator(16)
        for _ in range(40):
            rational = random_rational(generator, 8, 5)
            self.assertEqual(reduce_rational(*rational), rational)


class CommonDivisor(unittest.TestCase):

    def test_is_that_of_euclid(self):
        generator = make_generator(17)
        for _ in range(150):
            factor = random_polynomial(generator, generator.randint(1, 5), 2)
            one = plain_product(factor, random_polynomial(generator, generator.randint(1, 7), 2))
            other = plain_product(factor, random_polynomial(generator, generator.randint(1, 7), 2))
            divisor = common_divisor(one, other)
            self.assertGreater(divisor[-1], 0)
            self.assertEqual(gcd(*divisor), 1)
            monic = [Fraction(c, divisor[-1]) for c in divisor]
            self.assertEqual(monic, plain_common_divisor(one, other))


class Arithmetic(Checks):

    def test_examples(self):
        half = ((1,), (2,))
        self.assertEqual(add_rationals(half, half), ONE)
        self.assertEqual(subtract_rationals(ONE, P), REST)
        self.assertEqual(multiply_rationals(P, REST), ((0, 1, -1), (1,)))

    def test_zero_and_one(self):
        for rational in (ZERO, ONE, P, REST, ((1,), (0, 1, -1)), ((-3, 1), (2, 5))):
            self.assertEqual(add_rationals(rational, ZERO), rational)
            self.assertEqual(add_rationals(ZERO, rational), rational)
            self.assertEqual(subtract_rationals(rational, ZERO), rational)
            self.assertEqual(subtract_rationals(rational, rational), ZERO)
            self.assertEqual(multiply_rationals(rational, ONE), rational)
            self.assertEqual(multiply_rationals(ONE, rational), rational)
            self.assertEqual(multiply_rationals(rational, ZERO), ZERO)

    def test_what_cancels(self):
        one, other = ((1,), (0, 1)), ((1,), (1, -1))
        self.assertEqual(add_rationals(one, other), ((1,), (0, 1, -1)))
        self.assertEqual(subtract_rationals(one, other), ((1, -2), (0, 1, -1)))
        self.assertEqual(multiply_rationals(((0, 1), (1, 1)), ((1, 1), (0, 2))), ((1,), (2,)))
        self.assertEqual(add_rationals(((1,), (1, 1)), ((0, 1), (1, 1))), ONE)
        self.assertEqual(multiply_rationals(((-1,), (1, -1)), ((1,), (0, 1))), ((-1,), (0, 1, -1)))

    def test_random_pairs(self):
        generator = make_generator(21)
        for _ in range(60):
            one, other = random_rational(generator, 5, 2), random_rational(generator, 5, 2)
            for function, combine in (
                (add_rationals, lambda a, b: a + b), (subtract_rationals, lambda a, b: a - b),
                (multiply_rationals, lambda a, b: a * b),
            ):
                result = function(one, other)
                self.check_lowest_terms(result)
                for p in POINTS:
                    values = [plain_value(part, p) for part in (*one, *other)]
                    if values[1] != 0 and values[3] != 0:
                        due = combine(values[0] / values[1], values[2] / values[3])
                        self.assertEqual(evaluate_rational(result, p), as_fraction(due))

    def test_large(self):
        generator = make_generator(22)
        one, other = [
            reduce_rational(*[random_polynomial(generator, 41, 60) for _ in range(2)])
            for _ in range(2)
        ]
        total = add_rationals(one, other)
        self.assertEqual(subtract_rationals(total, other), one)
        self.assertEqual(multiply_rationals(one, other), multiply_rationals(other, one))


class Composition(Checks):

    def test_example(self):
        self.assertEqual(compose_rationals(((0, 1), (2, -1)), ((1,), (2,))), ((1,), (3,)))

    def test_with_p_itself(self):
        generator = make_generator(31)
        for _ in range(40):
            rational = random_rational(generator, 8, 6)
            self.assertEqual(compose_rationals(rational, P), rational)
            self.assertEqual(compose_rationals(P, rational), rational)

    def test_swapping_sides(self):
        self.assertEqual(compose_rationals(P, REST), REST)
        self.assertEqual(compose_rationals(REST, REST), P)
        self.assertEqual(compose_rationals(((0, 0, 1), (1, -2, 2)), REST), ((1, -2, 1), (1, -2, 2)))

    def test_constants(self):
        self.assertEqual(compose_rationals(ZERO, ((0, 1), (2, -1))), ZERO)
        self.assertEqual(compose_rationals(((2,), (3,)), ((0, 1), (2, -1))), ((2,), (3,)))
        self.assertEqual(compose_rationals(((1, 1), (2, -1)), ZERO), ((1,), (2,)))
        self.assertEqual(compose_rationals(((0, 0, 4), (3,)), ((1,), (2,))), ((1,), (3,)))
        self.assertEqual(compose_rationals(((-1, 2), (3, 1)), ((1,), (2,))), ZERO)
        self.assertEqual(compose_rationals(((1,), (1, -1)), ((2,), (1,))), ((-1,), (1,)))

    def test_numerator_and_denominator_of_unequal_degree(self):
        inner = ((1,), (0, 1))
        self.assertEqual(compose_rationals(((0, 0, 0, 1), (1,)), inner), ((1,), (0, 0, 0, 1)))
        self.assertEqual(compose_rationals(((1,), (0, 0, 1)), inner), ((0, 0, 1), (1,)))
        self.assertEqual(compose_rationals(((1, 1), (1, 0, 1)), inner), ((0, 1, 1), (1, 0, 1)))

    def test_common_integer_appears(self):
        inner = ((1, 1), (2,))
        self.assertEqual(compose_rationals(((0, 2), (1, 1)), inner), ((2, 2), (3, 1)))
        self.assertEqual(compose_rationals(((0, 1), (1, -1)), ((1,), (3,))), ((1,), (2,)))

    def test_zero_denominator(self):
        for outer, inner in (
            (((1,), (1, -2)), ((1,), (2,))),
            (((1,), (0, 1)), ZERO),
            (((0, 1), (1, -1)), ONE),
            (((1, 1), (3, 1)), ((-3,), (1,))),
            (((1, 0, 5), (-1, 1, 0, 2, -2)), ONE),
        ):
            self.assertRaises(ZeroDenominator, compose_rationals, outer, inner)

    def test_random_pairs(self):
        generator = make_generator(32)
        for _ in range(50):
            outer, inner = random_rational(generator, 5, 1), random_rational(generator, 5, 1)
            if len(inner[0]) < 2 and len(inner[1]) < 2:
                continue
            result = compose_rationals(outer, inner)
            self.check_lowest_terms(result)
            for p in POINTS:
                lower = plain_value(inner[1], p)
                if lower == 0:
                    continue
                at = plain_value(inner[0], p) / lower
                if plain_value(outer[1], at) != 0:
                    due = plain_value(outer[0], at) / plain_value(outer[1], at)
                    self.assertEqual(evaluate_rational(result, p), as_fraction(due))

    def test_in_either_order(self):
        generator = make_generator(33)
        for _ in range(20):
            one, two, three = [random_rational(generator, 3, 1) for _ in range(3)]
            try:
                left = compose_rationals(compose_rationals(one, two), three)
                right = compose_rationals(one, compose_rationals(two, three))
            except ZeroDenominator:
                continue
            self.assertEqual(left, right)

    def test_large(self):
        generator = make_generator(34)
        outer = reduce_rational(*[random_polynomial(generator, 41, 20) for _ in range(2)])
        inner = ((0, 1), (2, -1))
        back = ((0, 2), (1, 1))
        self.assertEqual(compose_rationals(compose_rationals(outer, inner), back), outer)


class Values(Checks):

    def test_examples(self):
        self.assertEqual(evaluate_rational(((0, 1), (2, -1)), (1, 2)), (1, 3))
        with self.assertRaises(UndefinedValue) as held:
            evaluate_rational(((1,), (1, -2)), (1, 2))
        self.assertEqual(held.exception.p, (1, 2))

    def test_ends(self):
        self.assertEqual(evaluate_rational(((0, 1), (2, -1)), (0, 1)), (0, 1))
        self.assertEqual(evaluate_rational(((0, 1), (2, -1)), (1, 1)), (1, 1))
        self.assertEqual(evaluate_rational(((3, -5), (4, 2)), (0, 1)), (3, 4))
        self.assertEqual(evaluate_rational(((3, -5), (4, 2)), (1, 1)), (-1, 3))

    def test_sign_stays_above(self):
        self.assertEqual(evaluate_rational(((1,), (1, -2)), (2, 3)), (-3, 1))
        self.assertEqual(evaluate_rational(((1,), (1, 1)), (-3, 1)), (-1, 2))
        self.assertEqual(evaluate_rational(((-2,), (1, 1)), (-3, 1)), (1, 1))
        self.assertEqual(evaluate_rational(ZERO, (-9, 7)), (0, 1))

    def test_poles(self):
        for rational, p in (
            (((1,), (0, 1)), (0, 1)), (((1,), (1, -1)), (1, 1)), (((1,), (0, 1, -1)), (1, 1)),
            (((0, 0, 1), (2, 3)), (-2, 3)), (((1,), (7, -2)), (7, 2)),
        ):
            with self.assertRaises(UndefinedValue) as held:
                evaluate_rational(rational, p)
            self.assertEqual(held.exception.p, p)

    def test_values(self):
        generator = make_generator(41)
        for _ in range(40):
            rational = random_rational(generator, 6, 20)
            for p in POINTS:
                upper, lower = plain_value(rational[0], p), plain_value(rational[1], p)
                if lower != 0:
                    value = evaluate_rational(rational, p)
                    self.assertIs(type(value), tuple)
                    self.assertEqual(value, as_fraction(upper / lower))


class Arguments(unittest.TestCase):

    def test_by_position_and_by_name(self):
        one, other = ((0, 1), (2, -1)), ((1, 1), (3,))
        for function in (add_rationals, subtract_rationals, multiply_rationals):
            self.assertEqual(function(other=other, one=one), function(one, other))
            self.assertEqual(function(one, other=other), function(one, other))
        self.assertNotEqual(subtract_rationals(one=one, other=other), subtract_rationals(other, one))
        named = reduce_rational(denominator=(4, 0, -4), numerator=(2, 2))
        self.assertEqual(named, reduce_rational((2, 2), (4, 0, -4)))
        named = compose_rationals(inner=other, outer=one)
        self.assertEqual(named, compose_rationals(one, other))
        named = evaluate_rational(p=(1, 3), rational=one)
        self.assertEqual(named, evaluate_rational(one, (1, 3)))
        self.assertRaises(ZeroDenominator, reduce_rational, numerator=(), denominator=())

    def test_sum_is_that_of_polynomials(self):
        one, other = (1, 2, 3), (4, -2, -3)
        total = add_rationals((one, (1,)), (other, (1,)))
        self.assertEqual(total, (add_polynomials(one, other), (1,)))


if __name__ == "__main__":
    unittest.main()
