"""Polynomials of any degrees, as they are met within the package: products and divisions of long ones."""

import unittest

from slopewords.base.arithmetic import add_scaled, binomial_row, divide, multiply, power_of, quotient_of, rest_of
from slopewords.func.functions import Function, function_of, power_quotient
from tests.support import PRIMES, Source, slow_product


class LongTest(unittest.TestCase):
    def setUp(self):
        self.source = Source(11)

    def check_division(self, prime, one, other):
        quotient, rest = divide(prime, one, other)
        self.assertLess(len(rest), len(other))
        self.assertEqual(rest[-1:] != (0,) and quotient[-1:] != (0,), True)
        product = slow_product(prime, quotient, other)
        self.assertEqual(add_scaled(prime, product, rest, 1), one)
        self.assertEqual((quotient_of(prime, one, other), rest_of(prime, one, other)), (quotient, rest))

    def test_products(self):
        for prime in PRIMES:
            for low, high in ((5, 300), (6, 6), (89, 90), (90, 91), (179, 181), (300, 200), (400, 0)):
                one, other = self.source.poly(prime, low), self.source.poly(prime, high)
                self.assertEqual(multiply(prime, one, other), slow_product(prime, one, other))
                self.assertEqual(multiply(prime, other, one), slow_product(prime, one, other))

    def test_greatest_products(self):
        """All numbers are as great as can be, and more than twenty blocks are added up."""
        for prime in PRIMES:
            low, high = 2000, 2500
            numbers = [min(place + 1, low, low + high - 1 - place) for place in range(low + high - 1)]
            due = [(prime - 1) ** 2 * number % prime for number in numbers]
            while due[-1] == 0:
                due.pop()
            self.assertEqual(multiply(prime, (prime - 1,) * low, (prime - 1,) * high), tuple(due))

    def test_divisions(self):
        for prime in PRIMES:
            for low in (0, 10, 63, 64, 65, 100, 200):
                for more in (0, 1, 8, 9, 10, 63, 64, 65, 128, 200):
                    other = self.source.poly(prime, low)
                    self.check_division(prime, self.source.poly(prime, low + more), other)

    def test_divisions_with_gaps(self):
        """Rests that are much shorter than the last one, and quotients with many zeros."""
        for prime in PRIMES:
            for low in (64, 80, 150):
                other = self.source.poly(prime, low)
                for gap in (0, 20, 70, 130):
                    quotient = self.source.poly(prime, 5) + (0,) * gap + self.source.poly(prime, 20)
                    product = slow_product(prime, quotient, other)
                    self.assertEqual(divide(prime, product, other), (quotient, ()))
                    self.check_division(prime, add_scaled(prime, product, self.source.poly(prime, low - 1), 1), other)
                self.check_division(prime, (0,) * 300 + (1,), other)

    def test_short_ones(self):
        for prime in PRIMES:
            other = self.source.poly(prime, 100)
            for one in ((), (1,), other[:-1] + (other[-1],)):
                self.check_division(prime, one, other)

    def test_powers_of_bottoms(self):
        for prime in PRIMES:
            for _ in range(8):
                base = self.source.poly(prime, self.source.number(1, 4))[:-1] + (1,)
                factor = Function(prime, (1,), base).bottom
                many = self.source.number(0, 5)
                for less in range(many + 2):
                    top = multiply(prime, self.source.poly(prime, 6), power_of(prime, factor, less))
                    due = function_of(prime, top, power_of(prime, base, many))
                    self.assertEqual(power_quotient(prime, top, base, many), due)
                self.assertEqual(power_quotient(prime, (), base, many), Function.number(prime, 0))

    def test_powers_with_several_factors(self):
        """Factors of the bottom that divide the top unlike often."""
        for prime in PRIMES:
            base = multiply(prime, (0, 0, 1), (1, 1))
            for first in range(6):
                for second in range(4):
                    top = multiply(prime, (0,) * first + (1,), multiply(prime, power_of(prime, (1, 1), second), (1, 1, 1, 1)))
                    due = function_of(prime, top, power_of(prime, base, 2))
                    self.assertEqual(power_quotient(prime, top, base, 2), due)

    def test_binomials(self):
        self.assertEqual(binomial_row(7, 4), [1, 4, 6, 4, 1])
        for prime in PRIMES:
            self.assertEqual(binomial_row(prime, 0), [1])
            self.assertEqual(binomial_row(prime, prime), [1] + [0] * (prime - 1) + [1])
            for many in range(12):
                power = power_of(prime, (1, 1), many)
                self.assertEqual(tuple(binomial_row(prime, many)), power)


if __name__ == "__main__":
    unittest.main()
