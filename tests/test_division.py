"""[7.1] to [7.6]: division of operators."""

import unittest

from slopewords.errors import InvalidOperation
from slopewords.func.functions import Function
from slopewords.func.slopes import turn_of
from slopewords.oper.division import is_left_factor, is_right_factor, left_division, left_quotient, power_rest
from slopewords.oper.division import right_division, right_quotient, value_at, value_row
from slopewords.oper.operators import Operator
from tests.support import BAR, D2, D3, EMPTY3, KINDS, LOGS, NO, ONE, PRIMES, X2, X3, Source, check_error
from tests.support import check_refusals, function_kind, number_kind, operator_kind, value_kind

DIVISIONS = (right_division, left_division, right_quotient, left_quotient)


class Samples(unittest.TestCase):
    def setUp(self):
        self.source = Source(71)

    def some(self, prime, least=-1, most=4):
        return self.source.operator(prime, self.source.number(least, most))

    def rest(self, one, other):
        return right_division(one, other)[1]


class KindsTest(Samples):
    def test_refusals(self):
        operator = operator_kind(LOGS)
        for call in DIVISIONS:
            check_refusals(self, call, [operator, operator])
        for call in (is_right_factor, is_left_factor):
            check_refusals(self, call, [operator, value_kind(D3)])
        check_refusals(self, value_at, [operator, function_kind(X3)])
        check_refusals(self, value_row, [function_kind(X3), number_kind(3, 0, 20)])
        check_refusals(self, power_rest, [operator, number_kind(3, 0, 60)])

    def test_empty_and_unlike(self):
        for call in DIVISIONS:
            check_error(self, InvalidOperation, call, [D3, EMPTY3], {})
            check_error(self, InvalidOperation, call, [EMPTY3, EMPTY3], {})
            for one in (D2, Operator.times(X2), Operator(2, ())):
                check_error(self, InvalidOperation, call, [one, D3], {})
            check_error(self, operator_kind(None).error, call, [D2, ()], {})
        check_error(self, InvalidOperation, value_at, [D3, X2], {})
        check_error(self, InvalidOperation, value_at, [EMPTY3, X2], {})
        check_error(self, InvalidOperation, power_rest, [EMPTY3, 3], {})
        for bad in (True, 61, -1):
            caught = check_error(self, number_kind(1).error, power_rest, [EMPTY3, bad], {})
            self.assertIs(caught.given, bad)

    def test_judged_values(self):
        for value in KINDS + [EMPTY3, Operator(2, ()), BAR]:
            if not isinstance(value, Operator) or value.prime != 3 or not value:
                for call in (is_right_factor, is_left_factor):
                    self.assertIs(call(LOGS, value), False)
                    self.assertIs(call(EMPTY3, value), False)


class DivisionTest(Samples):
    def test_7_1_division(self):
        for prime in PRIMES:
            for _ in range(15):
                one, other = self.some(prime), self.some(prime, 0)
                for call in (right_division, left_division):
                    quotient, rest = call(one, other)
                    product = quotient * other if call == right_division else other * quotient
                    self.assertEqual(product + rest, one)
                    self.assertLess(rest.degree, max(other.degree, 0))
                    if one.degree < other.degree:
                        self.assertEqual((quotient.entries, rest), ((), one))
                    else:
                        self.assertEqual(quotient.degree, one.degree - other.degree)

    def test_7_1_single_pair(self):
        for prime in PRIMES:
            for _ in range(8):
                other = self.some(prime, 1)
                quotient = self.some(prime)
                rest = self.source.operator(prime, self.source.number(-1, other.degree - 1))
                self.assertEqual(right_division(quotient * other + rest, other), (quotient, rest))
                self.assertEqual(left_division(other * quotient + rest, other), (quotient, rest))

    def test_7_1_nine_functions(self):
        for prime in PRIMES:
            one, other = self.source.operator(prime, 8), self.source.operator(prime, 8)
            product = one * other
            self.assertEqual((right_quotient(product, other), left_quotient(product, one)), (one, other))
            self.assertEqual(self.rest(product + Operator.slopes(prime, 0), other), Operator.slopes(prime, 0))
            quotient, rest = right_division(one, self.source.operator(prime, 0))
            self.assertEqual((quotient.degree, rest.degree), (8, -1))

    def test_7_2_factors(self):
        for prime in PRIMES:
            for _ in range(8):
                one, other = self.some(prime, 1, 3), self.some(prime, 1, 3)
                product = one * other
                self.assertIs(is_right_factor(product, other), True)
                self.assertIs(is_left_factor(product, one), True)
                self.assertEqual((right_quotient(product, other), left_quotient(product, one)), (one, other))
                more = product + Operator.slopes(prime, 0)
                self.assertIs(is_right_factor(more, other), False)
                self.assertIs(is_left_factor(more, one), False)
                self.assertEqual((right_quotient(more, other), left_quotient(more, one)), (None, None))
                for call in (is_right_factor, is_left_factor):
                    self.assertIs(call(one, self.source.operator(prime, 0)), True)
                    self.assertIs(call(Operator(prime, ()), one), True)
                    self.assertIs(call(one, Operator(prime, ())), False)

    def test_7_3_rests(self):
        for prime in PRIMES:
            for _ in range(8):
                one, other, third, by = *[self.some(prime, -1, 3) for _ in range(3)], self.some(prime, 0, 2)
                self.assertEqual(self.rest(one + other, by), self.rest(one, by) + self.rest(other, by))
                self.assertEqual(self.rest(third * one, by), self.rest(third * self.rest(one, by), by))

    def test_7_3_made_0(self):
        self.assertTrue(is_right_factor(LOGS, D3))
        for power in (0, 3, 6):
            self.assertFalse(LOGS(X3 ** power))


class ValuesTest(Samples):
    def test_7_4_values(self):
        for prime in PRIMES:
            for _ in range(12):
                operator, function = self.some(prime), self.source.function(prime, 2, 2)
                value = value_at(operator, function)
                self.assertEqual(self.rest(operator, Operator.factor(function)), Operator.times(value))
                self.assertIs(is_right_factor(operator, Operator.factor(function)), not value)

    def test_7_4_rows(self):
        for prime in PRIMES:
            one = Function.number(prime, 1)
            function = self.source.nonzero(prime, 2, 1)
            row = value_row(function, 20)
            self.assertEqual((type(row), len(row), row[0], row[1]), (tuple, 20, one, function))
            for number in range(19):
                self.assertEqual(row[number + 1], row[number].slope() + function * row[number])
            for many in range(5):
                self.assertEqual(value_row(function, many), row[:many])

    def test_7_4_log_slopes(self):
        for prime in PRIMES:
            for _ in range(8):
                source, operator = self.source.nonzero(prime), self.some(prime)
                log = source.slope() // source
                for number, value in enumerate(value_row(log, 6)):
                    self.assertEqual(value, source.slope(times=number) // source)
                self.assertEqual(value_at(operator, log), operator(source) // source)

    def test_7_4_long_operators(self):
        for prime in PRIMES:
            product = self.source.operator(prime, 8) * Operator.slopes(prime, 8) * Operator.slopes(prime, 8)
            self.assertEqual((product.degree, value_at(product, Function.number(prime, 0))), (24, Function.number(prime, 0)))
            one = Function.number(prime, 1)
            due = Function.number(prime, 0)
            for entry in product:
                due = due + entry
            self.assertEqual(value_at(product, one), due)

    def test_7_5_values_of_powers_and_products(self):
        for prime in PRIMES:
            for _ in range(8):
                function = self.source.function(prime, 2, 1)
                value = value_at(Operator.slopes(prime, prime), function)
                self.assertEqual(value, function ** prime + function.slope(times=prime - 1))
                self.assertEqual(value, turn_of(function).spread())
                one, other = self.some(prime, -1, 3), self.some(prime, -1, 2)
                value = value_at(other, function)
                due = value * value_at(one, function + value.slope() // value) if value else value
                self.assertEqual(value_at(one * other, function), due)


class PowerRestsTest(Samples):
    def test_by_division(self):
        for prime in PRIMES:
            for _ in range(6):
                operator = self.some(prime, 0, 3)
                for many in range(9):
                    self.assertEqual(power_rest(operator, many), self.rest(Operator.slopes(prime, many), operator))

    def test_step_by_step(self):
        for prime in PRIMES:
            operator = self.source.operator(prime, 2)
            slope = Operator.slopes(prime, 1)
            for many in (0, 1, 5, 12, 29, 59):
                due = self.rest(slope * power_rest(operator, many), operator)
                self.assertEqual(power_rest(operator, many + 1), due)

    def test_edges(self):
        for prime in PRIMES:
            one = Operator.slopes(prime, 0)
            for many in (0, 1, 60):
                self.assertEqual(power_rest(self.source.operator(prime, 0), many), Operator(prime, ()))
            self.assertEqual(power_rest(self.source.operator(prime, 1), 0), one)
            self.assertEqual(power_rest(Operator.slopes(prime, 8), 7), Operator.slopes(prime, 7))
            self.assertEqual(power_rest(Operator.slopes(prime, 8), 8), Operator(prime, ()))
            self.assertEqual(power_rest(Operator.factor(Function.number(prime, 1)), 60), one)
            long_one = self.source.operator(prime, 8) * self.source.operator(prime, 2)
            self.assertEqual(power_rest(long_one, 9), Operator.slopes(prime, 1) * Operator.slopes(prime, 8))

    def test_7_6_sayings(self):
        minus = Operator.factor(ONE // X3)
        self.assertEqual((is_right_factor(D3 * D3, minus), is_left_factor(D3 * D3, minus)), (True, False))
        self.assertEqual(value_at(D3 * Operator.times(X3), NO), ONE)
        self.assertEqual(value_at(D3, NO) * value_at(Operator.times(X3), NO), NO)
        # The value of BAR at f is f f + f' + 1 / (x x); were it 0, 1 / t would be the turn of f.
        for _ in range(200):
            self.assertTrue(value_at(BAR, self.source.function(2, 4, 4)))


if __name__ == "__main__":
    unittest.main()
