"""[13.1] to [13.7] and [0.16]: norms."""

import unittest

from slopewords.errors import InvalidOperation, InvalidTable, TooMany
from slopewords.func.functions import Function
from slopewords.func.slopes import turn_of
from slopewords.line.tables import own_poly
from slopewords.made.rows import row_determinant
from slopewords.oper.changes import inverted, moved, stretched, tilted, turned_over
from slopewords.oper.common import left_multiple, right_common
from slopewords.oper.operators import Operator, commutator, is_central
from slopewords.turn.norms import MOST_NORM, is_norm, norm, norm_at, norm_by_rows, norm_cofactor, norm_operator
from slopewords.turn.norms import norm_product
from slopewords.turn.turns import is_flat, turn
from tests.support import BAR, D2, D3, EMPTY3, KINDS, LOGS, NO, ONE, PRIMES, X2, X3, Kind, Source, check_error
from tests.support import check_refusals, function_kind, operator_kind, prime_kind, value_kind

CALLS = (norm, norm_by_rows, norm_cofactor)


def zero(prime):
    return Function.number(prime, 0)


def one_of(prime):
    return Function.number(prime, 1)


def wrong_norms():
    """Values that are no norm polynomials."""
    return [value for value in KINDS if value != (X3,)] + [
        (ONE, NO), (NO,), (ONE,) * 10, (ONE, X2), (X2, ONE), [ONE, ONE], (ONE, 1), (None, ONE), ((ONE,),), (D3,)]


def norm_kind(good):
    return Kind(good, InvalidTable, wrong_norms())


def put(norm, letter):
    """A norm polynomial with another polynomial in y for y."""
    total = None
    for entry in norm[::-1]:
        product = () if total is None else norm_product(total, letter)
        total = (entry,) if not product else (product[0] + entry, *product[1:])
    return total


class Samples(unittest.TestCase):
    def setUp(self):
        self.source = Source(131)

    def some(self, prime, least=0, most=3):
        return self.source.operator(prime, self.source.number(least, most))

    def function(self, prime):
        return self.source.function(prime, 2, 1)

    def polynomial(self, prime, degree):
        """A norm polynomial."""
        return tuple(self.function(prime) for _ in range(degree)) + (self.source.nonzero(prime, 2, 1),)


class KindsTest(Samples):
    def test_constant(self):
        self.assertEqual(MOST_NORM, 8)

    def test_refusals(self):
        for call in CALLS:
            check_refusals(self, call, [operator_kind(LOGS)])
        check_refusals(self, is_norm, [prime_kind(), value_kind(None)])
        check_refusals(self, norm_product, [norm_kind((X3, ONE)), norm_kind((ONE,))])
        check_refusals(self, norm_at, [norm_kind((X3, ONE)), function_kind(X3)])
        check_refusals(self, norm_operator, [norm_kind((X3, ONE))])

    def test_unlike_primes(self):
        for one, other in (((X2,), (X3,)), ((ONE,) * 6, (X2,) * 5), ((X2,) * 9, (ONE,) * 9)):
            check_error(self, InvalidOperation, norm_product, [one, other], {})
        check_error(self, InvalidOperation, norm_at, [(X3, ONE), X2], {})

    def test_too_many(self):
        for prime in PRIMES:
            one, letter = one_of(prime), Function.letter(prime)
            high = letter ** 12 * letter ** 12
            five = Operator.slopes(prime, 5)
            for call in CALLS:
                check_error(self, InvalidOperation, call, [Operator(prime, ())], {})
                self.assertEqual(check_error(self, TooMany, call, [five], {}).limit, 4)
                self.assertEqual(check_error(self, TooMany, call, [five.led(high * high)], {}).limit, 4)
                for entries in ((high * letter,), (one // (high * letter),), (high * letter, one), (one, one // high // letter)):
                    self.assertEqual(check_error(self, TooMany, call, [Operator(prime, entries)], {}).limit, 24)
                for entries in ((high,), (one // high,), (high, one), (one, one // high)):
                    call(Operator(prime, entries))
                call(Operator.slopes(prime, 4))

    def test_too_long_products(self):
        for prime in PRIMES:
            one = one_of(prime)
            for low, high in ((9, 1), (1, 9), (5, 5), (6, 4)):
                self.assertEqual(len(norm_product((one,) * low, (one,) * high)), 9)
            for low, high in ((9, 2), (2, 9), (6, 5), (9, 9)):
                self.assertEqual(check_error(self, TooMany, norm_product, [(one,) * low, (one,) * high], {}).limit, 8)

    def test_judged_values(self):
        for prime in PRIMES:
            one, letter = one_of(prime), Function.letter(prime)
            for value in ((one,), (letter,), (zero(prime), one), (letter,) * 9, (zero(prime),) * 8 + (one,)):
                self.assertIs(is_norm(prime, value), True)
                for other in PRIMES:
                    self.assertIs(is_norm(other, value), other == prime)
        for value in wrong_norms() + KINDS:
            for prime in (5, 7):
                self.assertIs(is_norm(prime, value), False)
        for value in wrong_norms():
            self.assertIs(is_norm(3, value), False)


class NormsTest(Samples):
    def test_13_1_definition(self):
        for prime in PRIMES:
            for degree in (1, 2, 3, 4):
                operator = self.source.operator(prime, degree)
                found = norm(operator)
                self.assertIs(is_norm(prime, found), True)
                self.assertEqual(len(found), degree + 1)
                due = [operator.head ** prime * entry for entry in own_poly(turn(operator))]
                self.assertEqual([entry.spread() for entry in found], due)
                self.assertEqual(found[-1], operator.head)

    def test_13_1_degree_0(self):
        for prime in PRIMES:
            operator = self.source.operator(prime, 0)
            for call in (norm, norm_by_rows):
                self.assertEqual(call(operator), (operator.head,))
                self.assertEqual(call(operator)[0].spread(), operator.head ** prime)

    def test_13_2_products(self):
        for prime in PRIMES:
            for _ in range(5):
                one, other, function = self.some(prime, 0, 2), self.some(prime, 0, 2), self.function(prime)
                self.assertEqual(norm(one * other), norm_product(norm(one), norm(other)))
                self.assertEqual(norm(Operator.factor(function)), (-turn_of(function), one_of(prime)))
                self.assertEqual(norm(one)[0], row_determinant(one))
            self.assertEqual(norm(Operator.slopes(prime, 1)), (zero(prime), one_of(prime)))

    def test_13_3_rows(self):
        for prime in PRIMES:
            for degree in (0, 1, 2, 3, 4):
                for _ in range(2):
                    operator = self.source.operator(prime, degree)
                    self.assertEqual(norm_by_rows(operator), norm(operator))

    def test_13_3_flat_ones_and_powers(self):
        for prime in PRIMES:
            for degree in range(5):
                operator = Operator.slopes(prime, degree)
                due = (zero(prime),) * degree + (one_of(prime),)
                self.assertEqual((norm(operator), norm_by_rows(operator)), (due, due))

    def test_13_4_operators(self):
        for prime in PRIMES:
            for degree in (0, 1, 2, 8):
                told = self.polynomial(prime, degree)
                operator = norm_operator(told)
                self.assertEqual(operator.degree, prime * degree)
                self.assertIs(is_central(operator), True)
                for index, entry in enumerate(operator):
                    self.assertEqual(entry, zero(prime) if index % prime else told[index // prime].spread())
                self.assertFalse(commutator(operator, self.some(prime, 1, 2)))

    def test_13_4_cofactors(self):
        for prime in PRIMES:
            for degree in (0, 1, 2, 3):
                operator = self.source.operator(prime, degree)
                cofactor = norm_cofactor(operator)
                due = norm_operator(norm(operator))
                self.assertEqual((cofactor * operator, operator * cofactor), (due, due))
                self.assertEqual(cofactor.degree, (prime - 1) * degree)
            operator = self.source.operator(prime, 4)
            self.assertEqual(norm_cofactor(operator) * operator, norm_operator(norm(operator)))

    def test_13_4_norms_of_cofactors(self):
        for prime in (2, 3, 5):
            operator = Operator(prime, (self.function(prime), one_of(prime)))
            due = (one_of(prime),)
            for _ in range(prime - 1):
                due = norm_product(due, norm(operator))
            cofactor = norm_cofactor(operator)
            if max(max(len(entry.top), len(entry.bottom)) for entry in cofactor) <= 25:
                self.assertEqual(norm(cofactor), due)

    def test_norm_at(self):
        for prime in PRIMES:
            for degree in (0, 1, 4, 8):
                told, function = self.polynomial(prime, degree), self.function(prime)
                due = zero(prime)
                for index, entry in enumerate(told):
                    due = due + entry * function ** index
                self.assertEqual(norm_at(told, function), due)

    def test_norm_product(self):
        for prime in PRIMES:
            for low, high in ((0, 0), (1, 3), (4, 4), (8, 0)):
                one, other, function = self.polynomial(prime, low), self.polynomial(prime, high), self.function(prime)
                product = norm_product(one, other)
                self.assertEqual(len(product), low + high + 1)
                self.assertEqual(norm_product(other, one), product)
                self.assertEqual(norm_at(product, function), norm_at(one, function) * norm_at(other, function))


class ChangesTest(Samples):
    def test_13_5_turned_over_and_tilted(self):
        for prime in PRIMES:
            for _ in range(4):
                operator, function = self.some(prime), self.function(prime)
                told = norm(operator)
                due = put(told, (zero(prime), -one_of(prime)))
                self.assertEqual(norm(turned_over(operator)), due)
                due = put(told, (turn_of(function), one_of(prime)))
                self.assertEqual(norm(tilted(operator, function)), due)

    def test_13_5_letters(self):
        for prime in PRIMES:
            operator = self.some(prime, 1, 3)
            told, letter, one = norm(operator), Function.letter(prime), one_of(prime)
            for number in range(1, prime):
                due = tuple(moved(entry, number) for entry in told)
                self.assertEqual(norm(moved(operator, number)), due)
                due = tuple(stretched(entry, number) for entry in told)
                due = put(due, (zero(prime), one // Function.number(prime, number)))
                self.assertEqual(norm(stretched(operator, number)), due)
            due = put(tuple(inverted(entry) for entry in told), (zero(prime), -letter * letter))
            self.assertEqual(norm(inverted(operator)), due)

    def test_13_5_alike(self):
        """Behind a least common multiple A L = B U, with 1 as the right common one of both, B is alike to L."""
        for prime in PRIMES:
            seen = 0
            for _ in range(6):
                one = Operator(prime, (self.source.function(prime, 1, 1), one_of(prime)))
                other = Operator(prime, (self.source.nonzero(prime, 1, 0), one_of(prime)))
                if right_common(one, other).degree == 0:
                    alike = left_multiple(one, other)[2].monic()
                    seen += alike != one
                    self.assertEqual(norm(alike), norm(one))
            self.assertTrue(seen)

    def test_13_6_factors(self):
        """If the norm cannot come apart, the operator cannot; the norm of a product comes apart."""
        for prime in PRIMES:
            one, other = self.some(prime, 1, 1), self.some(prime, 1, 1)
            told = norm(one * other)
            self.assertEqual(told, norm_product(norm(one), norm(other)))
            self.assertEqual(norm_at(told, -norm(other)[0] // norm(other)[1]), zero(prime))


class SayingsTest(unittest.TestCase):
    def test_13_7(self):
        square = Operator.times(-X3 * X3)
        self.assertEqual(norm(D3 + square), (ONE - X3 * X3, ONE))
        self.assertEqual((norm(D3), norm(square)), ((NO, ONE), (-X3 * X3,)))
        other = (D2 + Operator.times(Function.number(2, 1) // X2)) * D2
        self.assertEqual(norm(D2 * D2), norm(other))
        self.assertEqual((is_flat(D2 * D2), is_flat(other)), (True, False))
        half = Function.number(2, 1) // X2
        self.assertEqual(norm(BAR), norm_product((half, Function.number(2, 1)), (half, Function.number(2, 1))))
        self.assertEqual(norm(LOGS), (NO, NO, ONE))
        self.assertNotEqual(LOGS, D3 * D3)
        self.assertEqual(EMPTY3.degree, -1)


if __name__ == "__main__":
    unittest.main()
