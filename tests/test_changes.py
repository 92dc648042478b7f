"""[9.1] to [9.7]: operators turned over and tilted, and changes of letters."""

import unittest

from slopewords.errors import InvalidNumber, InvalidOperation
from slopewords.func.functions import Function
from slopewords.func.slopes import is_slope, log_slope, turn_of
from slopewords.made.rows import made_number
from slopewords.oper.changes import inverted, moved, stretched, tilted, turned_over
from slopewords.oper.operators import Operator
from tests.support import D2, D3, EMPTY3, KINDS, LOGS, NO, ONE, PRIMES, X2, X3, Kind, Source, check_error
from tests.support import check_refusals, function_kind, number_kind, operator_kind


def changed_kind(good):
    """A function or an operator."""
    bad = [value for value in KINDS if not isinstance(value, (Function, Operator))] + [0, 1, (ONE, ONE)]
    return Kind(good, InvalidOperation, bad)


class Samples(unittest.TestCase):
    def setUp(self):
        self.source = Source(91)

    def some(self, prime, least=-1, most=4):
        return self.source.operator(prime, self.source.number(least, most))

    def function(self, prime):
        return self.source.function(prime, 3, 2)

    def changes(self, prime):
        """All changes of letters modulo a prime."""
        found = [inverted]
        found.extend(lambda value, number=number: moved(value, number) for number in range(prime))
        found.extend(lambda value, number=number: stretched(value, number) for number in range(1, prime))
        return found


class KindsTest(Samples):
    def test_refusals(self):
        check_refusals(self, turned_over, [operator_kind(LOGS)])
        check_refusals(self, inverted, [changed_kind(LOGS)])
        for good in (LOGS, X3, EMPTY3, NO):
            check_refusals(self, moved, [changed_kind(good), number_kind(1, 0, 2)])
            check_refusals(self, stretched, [changed_kind(good), number_kind(1, 1, 2)])
        check_refusals(self, tilted, [operator_kind(LOGS), function_kind(X3)])

    def test_bounds_hang_on_the_prime(self):
        for prime in PRIMES:
            for value in (Function.letter(prime), Operator.slopes(prime, 1)):
                moved(value, 0)
                moved(value, prime - 1)
                stretched(value, 1)
                stretched(value, prime - 1)
                for call, number in ((moved, prime), (moved, -1), (stretched, 0), (stretched, prime)):
                    self.assertEqual(check_error(self, InvalidNumber, call, [value, number], {}).given, number)

    def test_unlike_primes(self):
        check_error(self, InvalidOperation, tilted, [LOGS, X2], {})
        check_error(self, InvalidOperation, tilted, [EMPTY3, X2], {})
        check_error(self, InvalidOperation, tilted, [D2, X3], {})


class TurnedOverTest(Samples):
    def test_9_1_definition(self):
        for prime in PRIMES:
            down = -Operator.slopes(prime, 1)
            for _ in range(10):
                operator = self.some(prime)
                due = Operator(prime, ())
                for index, entry in enumerate(operator):
                    due = due + down ** index * Operator.times(entry)
                self.assertEqual(turned_over(operator), due)

    def test_9_1_rules(self):
        for prime in PRIMES:
            for _ in range(8):
                one, other, function = self.some(prime), self.some(prime), self.function(prime)
                over = turned_over(one)
                self.assertEqual((over.degree, turned_over(over)), (one.degree, one))
                self.assertEqual(over.head, -one.head if one.degree % 2 else one.head)
                self.assertEqual(turned_over(one + other), over + turned_over(other))
                self.assertEqual(turned_over(one * other), turned_over(other) * over)
                self.assertEqual(turned_over(Operator.factor(function)),
                                 -Operator.slopes(prime, 1) - Operator.times(function))

    def test_9_1_long_operators(self):
        for prime in PRIMES:
            long_one = self.source.operator(prime, 8) * self.source.operator(prime, 3)
            over = turned_over(long_one)
            self.assertEqual((over.degree, turned_over(over)), (11, long_one))

    def test_9_2_differences_are_slopes(self):
        for prime in PRIMES:
            for _ in range(8):
                operator, one, other = self.some(prime), self.function(prime), self.function(prime)
                over = turned_over(operator)
                self.assertTrue(is_slope(operator(one) * other - one * over(other)))
                self.assertEqual(made_number(over), made_number(operator))


class LettersTest(Samples):
    def test_9_3_letters(self):
        for prime in PRIMES:
            letter, slope = Function.letter(prime), Operator.slopes(prime, 1)
            one = Function.number(prime, 1)
            for number in range(prime):
                told = Function.number(prime, number)
                self.assertEqual((moved(letter, number), moved(slope, number)), (letter + told, slope))
                if number:
                    self.assertEqual(stretched(letter, number), told * letter)
                    self.assertEqual(stretched(slope, number), slope.led(one // told))
            self.assertEqual((inverted(letter), inverted(slope)), (one // letter, slope.led(-letter * letter)))

    def test_9_3_values(self):
        """A polynomial, moved, has the values of the polynomial at moved numbers, and so on."""
        for prime in PRIMES:
            for _ in range(6):
                function = self.function(prime)
                letter = Function.letter(prime)
                for number in range(prime):
                    self.check_put(function, letter + Function.number(prime, number), moved(function, number))
                for number in range(1, prime):
                    self.check_put(function, letter * Function.number(prime, number), stretched(function, number))
                self.check_put(function, Function.number(prime, 1) // letter, inverted(function))

    def check_put(self, function, letter, due):
        self.assertEqual(self.put(function.top, letter) // self.put(function.bottom, letter), due)

    def put(self, poly, letter):
        total = Function.number(letter.prime, 0)
        for number in poly[::-1]:
            total = total * letter + Function.number(letter.prime, number)
        return total

    def test_9_3_rules(self):
        for prime in PRIMES:
            for change in self.changes(prime):
                one, other = self.function(prime), self.source.nonzero(prime)
                first, second = self.some(prime, -1, 3), self.some(prime, -1, 3)
                self.assertEqual(change(one + other), change(one) + change(other))
                self.assertEqual(change(one * other), change(one) * change(other))
                self.assertEqual(change(one // other), change(one) // change(other))
                self.assertEqual(change(first + second), change(first) + change(second))
                self.assertEqual(change(first * second), change(first) * change(second))
                self.assertEqual(change(Operator.times(one)), Operator.times(change(one)))
                self.assertEqual(change(first).degree, first.degree)

    def test_9_4_made(self):
        for prime in PRIMES:
            for change in self.changes(prime):
                operator, function = self.some(prime), self.function(prime)
                self.assertEqual(change(operator)(change(function)), change(operator(function)))
                self.assertEqual(made_number(change(operator)), made_number(operator))

    def test_9_4_one_behind_the_other(self):
        for prime in PRIMES:
            for value in (self.function(prime), self.some(prime, 1, 3), Function.number(prime, 0), Operator(prime, ())):
                for one in range(prime):
                    for other in range(prime):
                        self.assertEqual(moved(moved(value, one), other), moved(value, (one + other) % prime))
                        if one and other:
                            due = stretched(value, one * other % prime)
                            self.assertEqual(stretched(stretched(value, one), other), due)
                self.assertEqual(inverted(inverted(value)), value)
                self.assertEqual((moved(value, 0), stretched(value, 1)), (value, value))

    def test_9_3_long_operators(self):
        for prime in PRIMES:
            long_one = self.source.operator(prime, 8) * Operator.slopes(prime, 2)
            for change in self.changes(prime):
                self.assertEqual(change(long_one).degree, 10)
            self.assertEqual(inverted(inverted(long_one)), long_one)


class TiltedTest(Samples):
    def test_9_5_definition(self):
        for prime in PRIMES:
            for _ in range(8):
                operator, function = self.some(prime), self.function(prime)
                slope = Operator.slopes(prime, 1) + Operator.times(function)
                due = Operator(prime, ())
                for index, entry in enumerate(operator):
                    due = due + (slope ** index).led(entry)
                self.assertEqual(tilted(operator, function), due)

    def test_9_5_rules(self):
        for prime in PRIMES:
            for _ in range(8):
                one, other = self.some(prime, -1, 3), self.some(prime, -1, 3)
                first, second = self.function(prime), self.function(prime)
                moved_one = tilted(one, first)
                self.assertEqual((moved_one.degree, moved_one.head), (one.degree, one.head))
                self.assertEqual(tilted(one + other, first), moved_one + tilted(other, first))
                self.assertEqual(tilted(one * other, first), moved_one * tilted(other, first))
                self.assertEqual(tilted(moved_one, second), tilted(one, first + second))
                self.assertEqual(tilted(moved_one, -first), one)
                self.assertEqual(tilted(Operator.factor(second), first), Operator.factor(second - first))

    def test_9_5_log_slopes(self):
        for prime in PRIMES:
            for _ in range(8):
                operator, by, function = self.some(prime), self.source.nonzero(prime), self.function(prime)
                tilt = tilted(operator, by.slope() // by)
                self.assertEqual(tilt(function), operator(by * function) // by)
                self.assertEqual(made_number(tilt), made_number(operator))

    def test_9_5_long_operators(self):
        for prime in PRIMES:
            long_one = self.source.operator(prime, 8) * Operator.slopes(prime, 2)
            function = self.source.nonzero(prime, 1, 1)
            tilt = tilted(long_one, function)
            self.assertEqual((tilt.degree, tilted(tilt, -function)), (10, long_one))

    def test_9_6_powers_of_the_slope(self):
        for prime in PRIMES:
            power = Operator.slopes(prime, prime)
            for _ in range(6):
                function = self.function(prime)
                due = function ** prime + function.slope(times=prime - 1)
                self.assertEqual(tilted(power, function), power + Operator.times(due))
                self.assertEqual(due, turn_of(function).spread())
            self.assertEqual(turned_over(power), -power)


class SayingsTest(unittest.TestCase):
    def test_9_7(self):
        line = Operator.factor(ONE // X3)
        self.assertEqual((line(X3), turned_over(line)(ONE // X3)), (NO, NO))
        self.assertTrue(turned_over(line)(X3))
        self.assertTrue((X3 * X3).slope())
        self.assertEqual((made_number(D3), made_number(tilted(D3, ONE))), (1, 0))
        self.assertEqual((X3.degree, inverted(X3).degree), (1, -1))
        self.assertEqual(tilted(D3, log_slope(3, (0, 1)))(ONE // X3), NO)


if __name__ == "__main__":
    unittest.main()
