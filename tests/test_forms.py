"""Promise 6: homogeneous forms and interval numbers."""

import unittest
from fractions import Fraction

from bentcoin.covers import interval_numbers
from bentcoin.forms import from_form, multiply_by_ht, raise_degree, to_form
from bentcoin.halving import halve_numbers, level_numbers
from bentcoin.polynomials import add_polynomials, multiply_polynomials, scale_polynomial
from tests.helpers import make_generator, plain_product, power, random_polynomial
from tests.plain_checker import plain_form, substitute_line

HT = (0, 1, -1)


def sum_of_terms(form):
    """Return the sum of c_k h^k t^(n - k), multiplied out."""
    total = ()
    for k, c in enumerate(form):
        term = multiply_polynomials(power((0, 1), k), power((1, -1), len(form) - 1 - k))
        total = add_polynomials(total, scale_polynomial(term, c))
    return total


def sign(number):
    return (number > 0) - (number < 0)


class Forms(unittest.TestCase):

    def test_examples(self):
        self.assertEqual(to_form((0, 1), 2), (0, 1, 1))
        self.assertEqual(raise_degree((0, 2)), (0, 2, 2))
        self.assertEqual(multiply_by_ht((3,)), (0, 3, 0))
        self.assertEqual(from_form((0, 2, 1)), (0, 2, -1))

    def test_zero_polynomial(self):
        for degree in range(6):
            self.assertEqual(to_form((), degree), (0,) * (degree + 1))
            self.assertEqual(from_form((0,) * (degree + 1)), ())
            self.assertEqual(raise_degree((0,) * (degree + 1)), (0,) * (degree + 2))
            self.assertEqual(multiply_by_ht((0,) * (degree + 1)), (0,) * (degree + 3))

    def test_constants(self):
        self.assertEqual(to_form((7,), 0), (7,))
        self.assertEqual(to_form((7,), 3), (7, 21, 21, 7))
        self.assertEqual(to_form((-1,), 1), (-1, -1))
        self.assertEqual(from_form((5,)), (5,))

    def check_form(self, polynomial, degree):
        form = to_form(polynomial, degree)
        self.assertIs(type(form), tuple)
        self.assertEqual(len(form), degree + 1)
        self.assertEqual(sum_of_terms(form), polynomial)
        self.assertEqual(from_form(form), polynomial)
        self.assertEqual(list(form), plain_form(polynomial, degree))
        return form

    def test_degrees_up_to_four_more(self):
        generator = make_generator(101)
        for size in range(1, 10):
            for digits in (1, 30):
                polynomial = random_polynomial(generator, size, digits)
                for more in range(5):
                    self.check_form(polynomial, size - 1 + more)

    def test_largest(self):
        polynomial = random_polynomial(make_generator(102), 41, 60)
        form = to_form(polynomial, 40)
        self.assertEqual(from_form(form), polynomial)
        self.assertEqual(from_form(to_form(polynomial, 44)), polynomial)

    def test_raise_degree(self):
        generator = make_generator(103)
        for size in range(1, 9):
            polynomial = random_polynomial(generator, size, 4)
            for degree in range(size - 1, size + 3):
                form = to_form(polynomial, degree)
                raised = raise_degree(form)
                self.assertEqual(len(raised), degree + 2)
                self.assertEqual(raised[0], form[0])
                self.assertEqual(raised[-1], form[-1])
                for k in range(1, degree + 1):
                    self.assertEqual(raised[k], form[k] + form[k - 1])
                self.assertEqual(raised, self.check_form(polynomial, degree + 1))

    def test_multiply_by_ht(self):
        generator = make_generator(104)
        for size in range(1, 9):
            polynomial = random_polynomial(generator, size, 4)
            for degree in range(size - 1, size + 3):
                product = multiply_by_ht(to_form(polynomial, degree))
                self.assertIs(type(product), tuple)
                self.assertEqual(product, self.check_form(plain_product(polynomial, HT), degree + 2))

    def test_from_form_leaves_no_zeros_at_the_end(self):
        self.assertEqual(from_form((1, 1)), (1,))
        self.assertEqual(from_form((1, 2, 1)), (1,))
        self.assertEqual(from_form((0, 1, 1)), (0, 1))
        self.assertEqual(from_form((2, 3)), (2, 1))
        self.assertEqual(from_form((0, 0, 1, 1)), (0, 0, 1))
        self.assertEqual(from_form((1, 0, -1, 0)), (1, -3, 2))

    def test_forms_of_every_kind(self):
        generator = make_generator(105)
        for size in range(1, 9):
            for _ in range(5):
                form = tuple(generator.randint(-3, 3) for _ in range(size))
                polynomial = from_form(form)
                self.assertEqual(polynomial, sum_of_terms(form))
                self.assertEqual(to_form(polynomial, size - 1), form)

    def test_by_position_and_by_name(self):
        self.assertEqual(to_form(degree=2, polynomial=(0, 1)), (0, 1, 1))
        self.assertEqual(raise_degree(form=(0, 2)), (0, 2, 2))
        self.assertEqual(multiply_by_ht(form=(3,)), (0, 3, 0))
        self.assertEqual(from_form(form=(0, 2, 1)), (0, 2, -1))


class IntervalNumbers(unittest.TestCase):

    def check_numbers(self, polynomial, a, b):
        numbers = interval_numbers(polynomial, a, b)
        start = Fraction(*a)
        due = plain_form(substitute_line(polynomial, start, Fraction(*b) - start), len(polynomial) - 1)
        scales = {Fraction(number) / c for number, c in zip(numbers, due) if c != 0}
        self.assertEqual(len(scales), 1)
        self.assertGreater(scales.pop(), 0)
        self.assertEqual([sign(c) for c in numbers], [sign(c) for c in due])
        return due

    def test_whole_interval_is_the_form(self):
        for polynomial in ((1,), (0, 1), (1, -3, 3), (5, 0, -7, 2)):
            form = to_form(polynomial, len(polynomial) - 1)
            self.assertEqual(interval_numbers(polynomial, (0, 1), (1, 1)), form)

    def test_intervals(self):
        generator = make_generator(106)
        for size in range(1, 9):
            polynomial = random_polynomial(generator, size, 3)
            for a, b in (((0, 1), (1, 2)), ((1, 3), (1, 1)), ((2, 7), (5, 9)), ((499, 999), (500, 999))):
                self.check_numbers(polynomial, a, b)

    def test_halves(self):
        generator = make_generator(107)
        for size in range(1, 9):
            polynomial = random_polynomial(generator, size, 3)
            halves = halve_numbers(level_numbers(to_form(polynomial, size - 1)))
            for half, (a, b) in zip(halves, (((0, 1), (1, 2)), ((1, 2), (1, 1)))):
                due = self.check_numbers(polynomial, a, b)
                self.assertEqual([sign(c) for c in half], [sign(c) for c in due])


if __name__ == "__main__":
    unittest.main()
