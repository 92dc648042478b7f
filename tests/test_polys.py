"""[1.2] to [1.5]: polynomials modulo primes."""

import itertools
import unittest

from slopewords.base.polys import MAX_POWER, MOST_LISTED, PRIMES, common_paper, common_poly, irreducibles
from slopewords.base.polys import is_irreducible, is_poly, poly_at, poly_division, poly_factors, poly_power
from slopewords.base.polys import poly_product, poly_slope, poly_sum
from slopewords.errors import InvalidNumber, InvalidOperation, InvalidPoly
from tests.support import KINDS, LONG, Source, check_refusals, number_kind, poly_kind, prime_kind, value_kind
from tests.support import slow_product, slow_sum, wrong_polys


def monics(prime, degree):
    """All monic polynomials of a degree, ascending."""
    return [numbers + (1,) for numbers in itertools.product(range(prime), repeat=degree)]


class KindsTest(unittest.TestCase):
    def test_constants(self):
        self.assertEqual((PRIMES, MAX_POWER, MOST_LISTED), ((2, 3, 5, 7), 60, 6))

    def test_0_8_is_poly(self):
        for prime in PRIMES:
            for value in ((), (1,), (0, 1), (prime - 1,) * 61, (0,) * 60 + (1,)):
                self.assertIs(is_poly(prime, value), True)
            for value in wrong_polys() + [(prime,), (1, prime), (0,) * 61 + (1,), (1,) * 62]:
                self.assertIs(is_poly(prime, value), False, value)

    def test_0_5_is_poly_takes_each_value(self):
        for value in KINDS:
            right = type(value) is tuple and (value == () or value == (1,) and value[0] is not True)
            self.assertIs(is_poly(3, value), right)

    def test_refusals(self):
        poly, prime, whole = poly_kind((1, 1)), prime_kind(), number_kind(2)
        check_refusals(self, is_poly, [prime, value_kind((1,))])
        check_refusals(self, poly_sum, [prime, poly, poly], "times", whole)
        for call in (poly_product, poly_division, common_poly, common_paper):
            check_refusals(self, call, [prime, poly, poly])
        check_refusals(self, poly_power, [prime, poly, number_kind(2, 0, 60)])
        check_refusals(self, poly_at, [prime, poly, whole])
        for call in (poly_slope, is_irreducible, poly_factors):
            check_refusals(self, call, [prime, poly])

    def test_refused_generator(self):
        def asked(prime, degree):
            return next(irreducibles(prime, degree))
        check_refusals(self, asked, [prime_kind(), number_kind(2, 1, 6)])
        irreducibles(4, 0)

    def test_degrees_above_60(self):
        longer = (0,) * 61 + (1,)
        self.assertEqual(poly_product(2, longer[1:], longer[1:]), (0,) * 120 + (1,))
        for call in (poly_product, poly_sum, poly_division, common_poly):
            with self.assertRaises(InvalidPoly):
                call(2, longer, (1,))
            with self.assertRaises(InvalidPoly):
                call(2, (1,), longer)

    def test_0_1_sixty_digits(self):
        self.assertEqual(poly_at(7, (0, 1), LONG - 1), (LONG - 1) % 7)
        self.assertEqual(poly_at(7, (0, 1), 1 - LONG), (1 - LONG) % 7)
        self.assertEqual(poly_sum(7, (), (1,), times=LONG - 2), ((LONG - 2) % 7,))
        for bad in (LONG, -LONG):
            with self.assertRaises(InvalidNumber):
                poly_at(7, (0, 1), bad)

    def test_then(self):
        for bad in ((True,), (3,), [1]):
            with self.assertRaises(InvalidPoly):
                poly_division(3, bad, ())
        with self.assertRaises(InvalidOperation):
            poly_division(3, (), ())
        with self.assertRaises(InvalidOperation):
            poly_factors(2, ())


class SumsTest(unittest.TestCase):
    def setUp(self):
        self.source = Source(11)

    def polys(self, prime, top=9):
        return [self.source.poly(prime, self.source.number(-1, top)) for _ in range(3)]

    def test_sums_and_products(self):
        for prime in PRIMES:
            for _ in range(40):
                one, other, third = self.polys(prime)
                self.assertEqual(poly_product(prime, one, other), slow_product(prime, one, other))
                total = poly_sum(prime, one, other)
                self.assertTrue(is_poly(prime, total))
                self.assertEqual(poly_sum(prime, total, other, times=-1), one)
                self.assertEqual(poly_product(prime, total, third), poly_sum(
                    prime, poly_product(prime, one, third), poly_product(prime, other, third)))
                self.assertEqual(poly_sum(prime, one, other, times=prime), one)
                self.assertEqual(poly_sum(prime, one, one, times=prime - 1), ())

    def test_long_products(self):
        for prime in PRIMES:
            for one, other in ((60, 60), (60, 5), (4, 60), (40, 33)):
                one, other = self.source.poly(prime, one), self.source.poly(prime, other)
                self.assertEqual(poly_product(prime, one, other), slow_product(prime, one, other))
            most = (prime - 1,) * 61
            self.assertEqual(poly_product(prime, most, most), slow_product(prime, most, most))

    def test_powers(self):
        for prime in PRIMES:
            poly = self.source.poly(prime, 4)
            power = (1,)
            for many in range(10):
                self.assertEqual(poly_power(prime, poly, many), power)
                power = slow_product(prime, power, poly)
            self.assertEqual(poly_power(prime, (), 0), (1,))
            self.assertEqual(poly_power(prime, (), 60), ())
            self.assertEqual(poly_power(prime, (0, 1), 60), (0,) * 60 + (1,))
        long_one = self.source.poly(7, 60)
        half = poly_power(7, long_one, 30)
        self.assertEqual(poly_power(7, long_one, 60), slow_product(7, half, half))

    def test_slopes_and_values(self):
        for prime in PRIMES:
            for _ in range(20):
                one, other, _ = self.polys(prime)
                self.assertEqual(poly_slope(prime, poly_product(prime, one, other)), poly_sum(
                    prime, poly_product(prime, poly_slope(prime, one), other),
                    poly_product(prime, one, poly_slope(prime, other))))
                for number in (-9, -1, 0, 1, 5, 10 ** 20):
                    due = sum(further * number ** place for place, further in enumerate(one)) % prime
                    self.assertEqual(poly_at(prime, one, number), due)
        self.assertEqual(poly_slope(5, (4,)), ())
        self.assertEqual(poly_at(5, (), 3), 0)


class DivisionTest(unittest.TestCase):
    def setUp(self):
        self.source = Source(12)

    def test_1_2_single_pair(self):
        for prime in PRIMES:
            for _ in range(60):
                one = self.source.poly(prime, self.source.number(-1, 20))
                other = self.source.poly(prime, self.source.number(0, 12))
                quotient, rest = poly_division(prime, one, other)
                self.assertEqual(poly_sum(prime, poly_product(prime, quotient, other), rest), one)
                self.assertLess(len(rest), len(other))
            self.assertEqual(poly_division(prime, (), (1, 1)), ((), ()))
            long_one, long_other = self.source.poly(prime, 60), self.source.poly(prime, 30)
            quotient, rest = poly_division(prime, long_one, long_other)
            self.assertEqual(poly_sum(prime, poly_product(prime, quotient, long_other), rest), long_one)

    def test_1_3_common_divisor(self):
        for prime in PRIMES:
            for _ in range(60):
                shared = self.source.poly(prime, self.source.number(0, 3))
                one = slow_product(prime, shared, self.source.poly(prime, self.source.number(-1, 6)))
                other = slow_product(prime, shared, self.source.poly(prime, self.source.number(-1, 6)))
                self.check_paper(prime, one, other, shared)

    def check_paper(self, prime, one, other, shared):
        common, first, second = common_paper(prime, one, other)
        self.assertEqual(common, common_poly(prime, one, other))
        self.assertEqual(slow_sum(prime, slow_product(prime, first, one), slow_product(prime, second, other)), common)
        if not one and not other:
            self.assertEqual((common, first, second), ((), (), ()))
            return
        self.assertEqual(common[-1], 1)
        for poly in (one, other):
            self.assertEqual(poly_division(prime, poly, common)[1], ())
        self.assertEqual(poly_division(prime, common, shared)[1], ())
        if not one:
            self.assertEqual(first, ())
        elif not other:
            self.assertEqual(second, ())
        else:
            above = len(poly_division(prime, other, common)[0]) - 1
            self.assertTrue(first == () if above == 0 else len(first) - 1 < above)

    def test_1_3_edges(self):
        self.assertEqual(common_paper(5, (), ()), ((), (), ()))
        self.assertEqual(common_paper(5, (), (2, 2)), ((1, 1), (), (3,)))
        self.assertEqual(common_paper(5, (2, 2), ()), ((1, 1), (3,), ()))
        self.assertEqual(common_paper(5, (3,), (2,)), ((1,), (), (3,)))
        self.assertEqual(common_paper(5, (0, 0, 1), (0, 2)), ((0, 1), (), (3,)))
        self.assertEqual(common_poly(2, (), ()), ())
        long_one, long_other = self.source.poly(7, 60), self.source.poly(7, 59)
        self.check_paper(7, long_one, long_other, (1,))


class FactorsTest(unittest.TestCase):
    def reducible(self, prime, degree):
        """All monic products of two polynomials of lesser degrees."""
        return {slow_product(prime, one, other) for lesser in range(1, degree // 2 + 1)
                for one in monics(prime, lesser) for other in monics(prime, degree - lesser)}

    def test_1_4_irreducible(self):
        for prime, most in ((2, 6), (3, 4), (5, 3), (7, 2)):
            for degree in range(1, most + 1):
                found = self.reducible(prime, degree)
                due = [poly for poly in monics(prime, degree) if poly not in found]
                self.assertEqual(list(irreducibles(prime, degree)), due)
                for poly in monics(prime, degree):
                    self.assertIs(is_irreducible(prime, poly), poly not in found)
                    several = tuple((prime - 1) * number % prime for number in poly)
                    self.assertIs(is_irreducible(prime, several), poly not in found)
            for number in [()] + [(number,) for number in range(1, prime)]:
                self.assertIs(is_irreducible(prime, number), False)

    def test_1_4_counts(self):
        due = {2: [2, 1, 2, 3, 6, 9], 3: [3, 3, 8, 18, 48, 116], 5: [5, 10, 40, 150, 624, 2580],
               7: [7, 21, 112, 588, 3360, 19544]}
        for prime, counts in due.items():
            for degree, count in enumerate(counts, start=1):
                found = list(irreducibles(prime, degree))
                self.assertEqual(len(found), count)
                self.assertEqual(found, sorted(set(found)))

    def test_1_4_factors(self):
        source = Source(13)
        for prime in PRIMES:
            blocks = [poly for degree in (1, 2, 3) for poly in irreducibles(prime, degree)]
            for _ in range(25):
                chosen = {}
                for _ in range(source.number(0, 4)):
                    chosen[source.choice(blocks)] = source.choice((1, 2, 3, prime, prime + 1))
                poly = (source.number(1, prime - 1),)
                for factor, many in chosen.items():
                    poly = slow_product(prime, poly, poly_power(prime, factor, many))
                if len(poly) <= 61:
                    due = sorted((len(factor), factor, many) for factor, many in chosen.items())
                    self.assertEqual(poly_factors(prime, poly), tuple(row[1:] for row in due))

    def test_1_4_long_ones(self):
        source = Source(14)
        for prime in PRIMES:
            for _ in range(3):
                poly = source.poly(prime, 60)
                product = (poly[-1],)
                for factor, many in poly_factors(prime, poly):
                    self.assertTrue(is_irreducible(prime, factor))
                    for _ in range(many):
                        product = slow_product(prime, product, factor)
                self.assertEqual(product, poly)
            self.assertEqual(poly_factors(prime, (0,) * 60 + (1,)), (((0, 1), 60),))
            self.assertEqual(poly_factors(prime, (1,)), ())

    def test_1_5_sayings(self):
        self.assertEqual(poly_slope(3, (0, 0, 0, 1)), ())
        square = poly_power(2, (1, 1, 1), 2)
        self.assertTrue(all(poly_at(2, square, number) for number in range(2)))
        self.assertIs(is_irreducible(2, square), False)


if __name__ == "__main__":
    unittest.main()
