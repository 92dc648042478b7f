"""[6.1] to [6.5] and [0.10]: operators."""

import math
import operator as signs
import unittest

from slopewords.errors import InvalidFunction, InvalidNumber, InvalidOperation, InvalidOperator
from slopewords.func.functions import Function
from slopewords.oper.operators import MAX_ENTRIES, MAX_RAISED, Operator, commutator, each_made, is_central
from tests.support import BAR, D2, D3, EMPTY3, KINDS, LOGS, NO, ONE, PRIMES, X2, X3, Source, check_error, check_kept
from tests.support import check_refusals, function_kind, number_kind, operator_kind, prime_kind, value_kind
from tests.support import wrong_functions, wrong_numbers, wrong_operators, wrong_primes

SIGNS = (signs.add, signs.sub, signs.mul)


class Samples(unittest.TestCase):
    def setUp(self):
        self.source = Source(61)

    def some(self, prime, most=3):
        return self.source.operator(prime, self.source.number(-1, most))

    def zero(self, prime):
        return Function.number(prime, 0)

    def letter(self, prime):
        return Operator.times(Function.letter(prime))

    def slow_made(self, operator, function):
        """What the operator makes, straight from the definition."""
        total = self.zero(operator.prime)
        for index, entry in enumerate(operator.entries):
            total = total + entry * function.slope(times=index)
        return total

    def slow_product(self, one, other):
        """The product, by the binomials of [6.2]."""
        prime = one.prime
        total = [self.zero(prime)] * (len(one) + len(other))
        for high, entry in enumerate(one.entries):
            for low, further in enumerate(other.entries):
                for many in range(high + 1):
                    factor = Function.number(prime, math.comb(high, many))
                    at = high - many + low
                    total[at] = total[at] + factor * entry * further.slope(times=many)
        return total


class KindsTest(Samples):
    def test_constants(self):
        self.assertEqual((MAX_ENTRIES, MAX_RAISED), (9, 8))

    def test_refused_objects(self):
        for bad in wrong_primes():
            check_kept(self, check_error(self, InvalidNumber, Operator, [bad, None], {}), bad)
        rows = [(NO,), (ONE, NO), (ONE,) * 10, [ONE], (ONE, 1), (None,), (D3,), ((ONE,),), (X2, NO), (X2, 1), ONE, D3]
        for bad in rows + [value for value in KINDS if not isinstance(value, tuple)]:
            check_error(self, InvalidOperator, Operator, [3, bad], {})
        for bad in ((X2,), (X3, X2), (X2, X3), (X2,) * 9):
            check_error(self, InvalidOperation, Operator, [3, bad], {})
        self.assertEqual(len(Operator(3, (X3,) * 9)), 9)

    def test_refusals(self):
        function, whole = function_kind(X3), operator_kind(LOGS)
        check_refusals(self, Operator.slopes, [prime_kind(), number_kind(2, 0, 8)])
        check_refusals(self, Operator.factor, [function])
        check_refusals(self, Operator.times, [function])
        check_refusals(self, LOGS, [function])
        check_refusals(self, LOGS.led, [function])
        check_refusals(self, LOGS.entry, [number_kind(2, 0, 1000)])
        check_refusals(self, commutator, [whole, whole])
        check_refusals(self, is_central, [whole])

        def asked(operator, functions):
            return next(each_made(operator, functions))
        check_refusals(self, asked, [whole, value_kind((X3,))])
        for bad in [value for value in KINDS if value not in ((), (X3,), (X2, X3))] + [(X3, 1), [X3], (D3,), (X2, 1)]:
            check_error(self, InvalidFunction, asked, [LOGS, bad], {})
        check_error(self, InvalidOperator, asked, [None, None], {})
        for bad in ((X2,), (X3, X2)):
            check_error(self, InvalidOperation, asked, [LOGS, bad], {})
        each_made(None, None)

    def test_unlike_primes(self):
        for sign in SIGNS + (commutator,):
            check_error(self, InvalidOperation, sign, [D2, D3], {})
            check_error(self, InvalidOperation, sign, [Operator(2, ()), EMPTY3], {})
        for call in (D3, D3.led, EMPTY3, EMPTY3.led):
            check_error(self, InvalidOperation, call, [X2], {})
        self.assertIs(Operator(2, ()) == EMPTY3, False)

    def test_other_kinds(self):
        for value in wrong_operators():
            for sign in SIGNS:
                check_error(self, TypeError, sign, [LOGS, value], {})
                check_error(self, TypeError, sign, [value, LOGS], {})
            self.assertIs(LOGS == value, False)
            self.assertIs(LOGS != value, True)
        self.assertIs(LOGS == LOGS.entries, False)
        for bad in wrong_numbers(0, 8):
            check_kept(self, check_error(self, InvalidNumber, signs.pow, [LOGS, bad], {}), bad)
        for value in wrong_functions():
            if isinstance(value, Operator):
                check_error(self, TypeError, signs.mul, [X3, value], {})

    def test_never_changes(self):
        for name in ("prime", "entries", "degree", "head"):
            with self.assertRaises(AttributeError):
                setattr(LOGS, name, 2)


class FormTest(Samples):
    def test_6_1_entries(self):
        for prime in PRIMES:
            for degree in range(-1, 9):
                operator = self.source.operator(prime, degree)
                self.assertEqual((operator.prime, operator.degree, len(operator)), (prime, degree, degree + 1))
                self.assertEqual((type(operator.entries), list(operator)), (tuple, list(operator.entries)))
                self.assertEqual(operator.head, operator.entries[-1] if degree >= 0 else self.zero(prime))
                self.assertIs(bool(operator), degree >= 0)
                for index in (0, 1, 8, 9, 1000):
                    due = operator.entries[index] if index <= degree else self.zero(prime)
                    self.assertEqual(operator.entry(index), due)
                self.assertEqual(Operator(prime, operator.entries), operator)
                self.assertEqual(operator, operator - Operator(prime, ()))

    def test_class_methods(self):
        for prime in PRIMES:
            for many in range(9):
                due = (self.zero(prime),) * many + (Function.number(prime, 1),)
                self.assertEqual(Operator.slopes(prime, many).entries, due)
            function = self.source.nonzero(prime)
            self.assertEqual(Operator.factor(function).entries, (-function, Function.number(prime, 1)))
            self.assertEqual(Operator.times(function).entries, (function,))
            self.assertEqual(Operator.times(self.zero(prime)).entries, ())
            self.assertEqual(Operator.factor(self.zero(prime)), Operator.slopes(prime, 1))

    def test_6_1_sums(self):
        for prime in PRIMES:
            for _ in range(20):
                one, other = self.some(prime, 4), self.some(prime, 4)
                total = one + other
                for index in range(6):
                    self.assertEqual(total.entry(index), one.entry(index) + other.entry(index))
                    self.assertEqual((one - other).entry(index), one.entry(index) - other.entry(index))
                    self.assertEqual((-one).entry(index), -one.entry(index))
                self.assertTrue(not total.entries or total.entries[-1])
                self.assertEqual(one - one, Operator(prime, ()))

    def test_6_1_led_and_monic(self):
        for prime in PRIMES:
            for _ in range(10):
                operator, function = self.some(prime), self.source.function(prime)
                led = operator.led(function)
                self.assertEqual(led, Operator.times(function) * operator)
                self.assertEqual(led.entries, tuple(function * entry for entry in operator) if function else ())
                if operator:
                    monic = operator.monic()
                    self.assertEqual(monic.head, Function.number(prime, 1))
                    self.assertEqual(monic.led(operator.head), operator)
        check_error(self, InvalidOperation, EMPTY3.monic, [], {})

    def test_texts(self):
        rows = (
            ((), "0"), ((ONE,), "(1)"), ((NO, ONE), "(1) D"), ((NO, NO, X3), "(x) D^2"),
            ((ONE // X3 ** 2, NO, ONE), "((1)/(x^2)) + (1) D^2"), ((X3, ONE + ONE), "(x) + (2) D"),
            ((NO,) * 8 + (ONE + X3,), "(1 + x) D^8"),
        )
        for entries, text in rows:
            self.assertEqual(str(Operator(3, entries)), text)
        self.assertEqual(str(BAR), "((1)/(x^2)) + (1) D^2")
        self.assertEqual(str(Operator.slopes(3, 8) * Operator.slopes(3, 4)), "(1) D^12")


class ProductsTest(Samples):
    def test_6_2_product(self):
        for prime in PRIMES:
            for _ in range(12):
                one, other = self.some(prime, 4), self.some(prime, 3)
                product = one * other
                due = self.slow_product(one, other)
                self.assertEqual([product.entry(index) for index in range(len(due))], due)
                if one and other:
                    self.assertEqual(product.degree, one.degree + other.degree)
                    self.assertEqual(product.head, one.head * other.head)
                else:
                    self.assertEqual(product.entries, ())
                function = self.source.function(prime)
                self.assertEqual(product(function), one(other(function)))

    def test_6_2_rules(self):
        for prime in PRIMES:
            slope = Operator.slopes(prime, 1)
            for _ in range(8):
                one, other, third = self.some(prime, 2), self.some(prime, 2), self.some(prime, 2)
                self.assertEqual((one * other) * third, one * (other * third))
                self.assertEqual(one * (other + third), one * other + one * third)
                self.assertEqual((one + other) * third, one * third + other * third)
                function = self.source.function(prime)
                self.assertEqual(slope * Operator.times(function),
                                 Operator.times(function) * slope + Operator.times(function.slope()))
                self.assertEqual(commutator(one, other), one * other - other * one)
                self.assertEqual(commutator(slope, Operator.times(function)), Operator.times(function.slope()))
            self.assertEqual(slope * self.letter(prime), self.letter(prime) * slope + Operator.slopes(prime, 0))

    def test_6_2_nine_functions(self):
        for prime in PRIMES:
            one, other = self.source.operator(prime, 8), self.source.operator(prime, 8)
            product = one * other
            self.assertEqual((len(product), product.degree), (17, 16))
            function = self.source.function(prime)
            self.assertEqual(product(function), one(other(function)))
            self.assertEqual((product - product + one, product.monic().degree), (one, 16))
            self.assertEqual(product.entry(16), one.head * other.head)

    def test_powers(self):
        for prime in PRIMES:
            operator = self.source.operator(prime, 1)
            power = Operator.slopes(prime, 0)
            for many in range(9):
                self.assertEqual(operator ** many, power)
                power = power * operator
            self.assertEqual(Operator(prime, ()) ** 0, Operator.slopes(prime, 0))
            self.assertEqual(Operator(prime, ()) ** 8, Operator(prime, ()))
            self.assertEqual(len(Operator.slopes(prime, 8) ** 8), 65)

    def test_6_3_making(self):
        for prime in PRIMES:
            for _ in range(12):
                operator = self.some(prime, 8)
                one, other = self.source.function(prime), self.source.function(prime)
                self.assertEqual(operator(one), self.slow_made(operator, one))
                self.assertEqual(operator(one + other), operator(one) + operator(other))
                self.assertEqual(operator(other.spread() * one), other.spread() * operator(one))
                self.assertFalse(Operator.slopes(prime, prime)(one))
                self.assertEqual((operator + Operator.slopes(prime, prime))(one), operator(one))

    def test_6_3_entries_below_p(self):
        for prime in PRIMES:
            operator = self.some(prime, prime - 1)
            # The letter's powers tell the entries below the index p one by one.
            found = []
            for index in range(prime):
                power = Function.letter(prime) ** index
                made = operator(power)
                for low, entry in enumerate(found):
                    made = made - entry * power.slope(times=low)
                found.append(made // power.slope(times=index))
            self.assertEqual(found, [operator.entry(index) for index in range(prime)])

    def test_6_4_central(self):
        for prime in PRIMES:
            one = Function.number(prime, 1)
            spread = self.source.nonzero(prime).spread()
            central = Operator.slopes(prime, prime).led(spread) + Operator.times(spread)
            self.assertIs(is_central(central), True)
            self.assertIs(is_central(Operator(prime, ())), True)
            self.assertIs(is_central(Operator.times(one)), True)
            self.assertIs(is_central(central + Operator.slopes(prime, 1)), False)
            self.assertIs(is_central(Operator.slopes(prime, prime) * self.letter(prime)), False)
            for _ in range(15):
                operator = self.some(prime, 3)
                due = not commutator(operator, Operator.slopes(prime, 1)) and not commutator(
                    operator, self.letter(prime))
                self.assertIs(is_central(operator), due)
                self.assertFalse(commutator(central, operator))

    def test_each_made(self):
        for prime in PRIMES:
            operator = self.some(prime)
            functions = tuple(self.source.function(prime) for _ in range(5))
            self.assertEqual(list(each_made(operator, functions)), [operator(function) for function in functions])
            self.assertEqual(list(each_made(operator, ())), [])

    def test_6_5_sayings(self):
        self.assertEqual(((D3 + EMPTY3) - D3).degree, -1)
        one, other = D3, Operator.times(X3)
        difference = (one + other) * (one - other) - (one * one - other * other)
        self.assertEqual(difference, -Operator.times(ONE))
        self.assertTrue(D3 ** 3)
        self.assertFalse(any(each_made(D3 ** 3, tuple(X3 ** power for power in range(20)))))


if __name__ == "__main__":
    unittest.main()
