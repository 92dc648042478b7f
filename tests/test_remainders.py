"""Remainders by powers of irreducible polynomials, as they are met within the package."""

import unittest

from slopewords.base.arithmetic import add_scaled, common_divisor, multiply, power_of, rest_of, slope_of, spread_out
from slopewords.func.functions import Function, function_of
from slopewords.kin.remainders import FAR, NEAR, count_first, determinant_rest, folded, irreducible_of, is_short_rest
from slopewords.kin.remainders import product_rest, undone_rest
from slopewords.line.tables import determinant, table_rank
from tests.support import PRIMES, Source


def moduli():
    """All moduli."""
    return [(prime, table[prime]) for prime in PRIMES for table in (NEAR, FAR)]


def remainder(modulus, function):
    """The remainder of a function."""
    lift = modulus[0]
    return product_rest(modulus, folded(modulus, function.top, lift), undone_rest(modulus, function.bottom))


class RemaindersTest(unittest.TestCase):
    def setUp(self):
        self.source = Source(271)

    def function(self, prime, top, bottom):
        """A function of polynomials of just these degrees, in lowest terms."""
        while True:
            one, other = self.source.poly(prime, top), self.source.poly(prime, bottom)
            if common_divisor(prime, one, other) == (1,):
                return function_of(prime, one, other)

    def test_irreducible(self):
        """x to the power p ** degree is x, and no lesser exponent leaves a common divisor."""
        for prime, terms in moduli():
            poly = irreducible_of((prime, terms))
            degree = len(poly) - 1
            self.assertEqual([(power, number) for power, number in enumerate(poly) if number], list(terms))
            image = (0, 1)
            for number in range(1, degree + 1):
                image = folded((prime, terms), spread_out(prime, image), 1)
                if number < degree and degree % number == 0:
                    self.assertEqual(common_divisor(prime, poly, add_scaled(prime, image, (0, 1), -1)), (1,))
            self.assertEqual(image, (0, 1))

    def test_degrees(self):
        """No place of a function of degrees to 24 is in the way, and the far powers are long enough."""
        for prime in PRIMES:
            self.assertGreater(NEAR[prime][-1][0], 24)
            self.assertGreater(FAR[prime][-1][0] * prime, 2 * 400 + 30)

    def test_folded(self):
        for prime, terms in moduli():
            poly = irreducible_of((prime, terms))
            power = power_of(prime, poly, prime)
            self.assertFalse(slope_of(prime, power))
            for degree in (-1, 0, len(poly) - 2, len(poly), len(power), 2 * len(power)):
                one = self.source.poly(prime, degree)
                self.assertEqual(folded((prime, terms), one, 1), rest_of(prime, one, poly))
                self.assertEqual(folded((prime, terms), one, prime), rest_of(prime, one, power))

    def test_functions(self):
        """Sums, products and slopes of remainders are those of functions."""
        for modulus in moduli():
            prime = modulus[0]
            for degree in (1, 5, 24):
                one, other = self.function(prime, degree, degree), self.function(prime, 2, 7)
                left, right = remainder(modulus, one), remainder(modulus, other)
                self.assertEqual(remainder(modulus, one + other), add_scaled(prime, left, right, 1))
                self.assertEqual(remainder(modulus, one * other), product_rest(modulus, left, right))
                self.assertEqual(remainder(modulus, one.slope()), slope_of(prime, left))

    def test_undone(self):
        for modulus in moduli():
            prime, poly = modulus[0], irreducible_of(modulus)
            for degree in (0, 3, 30):
                one = self.source.poly(prime, degree)
                self.assertEqual(product_rest(modulus, one, undone_rest(modulus, one)), (1,))
            self.assertEqual(undone_rest(modulus, ()), ())
            self.assertEqual(undone_rest(modulus, poly), ())
            if prime > 2:
                self.assertEqual(undone_rest(modulus, multiply(prime, poly, (1, 1))), ())

    def test_short_ones(self):
        """Degrees to 400, and no greater one, are seen."""
        for prime in PRIMES:
            modulus = (prime, FAR[prime])
            for top, bottom in ((0, 0), (-1, 0), (400, 0), (0, 400), (400, 400), (237, 322), (12, 399)):
                function = self.function(prime, top, bottom)
                self.assertIs(is_short_rest(modulus, remainder(modulus, function), 400), True)
            for top, bottom in ((401, 0), (0, 401), (401, 400), (400, 401), (410, 410), (12, 420), (420, 12)):
                function = self.function(prime, top, bottom)
                self.assertIs(is_short_rest(modulus, remainder(modulus, function), 400), False)
                self.assertIs(is_short_rest(modulus, remainder(modulus, function), 420), top + bottom <= 820)
            self.assertIs(is_short_rest(modulus, self.source.poly(prime, 839), 400), False)

    def test_determinants(self):
        for modulus in moduli():
            prime = modulus[0]
            for size in (1, 2, 3, 4):
                table = tuple(tuple(Function(prime, self.source.poly(prime, self.source.number(-1, 4)), (1,))
                                    for _ in range(size)) for _ in range(size))
                rows = [[entry.top for entry in row] for row in table]
                self.assertEqual(determinant_rest(modulus, rows), determinant(table).top)

    def test_first_rows(self):
        """Rows are counted up to the first one that is a sum of multiples of those ahead."""
        for modulus in moduli():
            prime = modulus[0]
            for many in (1, 2, 3):
                while True:
                    rows = [[self.source.poly(prime, 2) for _ in range(4)] for _ in range(many)]
                    if table_rank(tuple(tuple(Function(prime, one, (1,)) for one in row) for row in rows)) == many:
                        break
                behind = [add_scaled(prime, multiply(prime, one, (1, 1)), other, 1)
                          for one, other in zip(rows[0], rows[-1])]
                self.assertEqual(count_first(modulus, rows), many)
                self.assertEqual(count_first(modulus, [*rows, behind, [(1,), (), (), ()]]), many)
            self.assertEqual(count_first(modulus, [[(), ()], [(1,), ()]]), 0)


if __name__ == "__main__":
    unittest.main()
