"""[2.1] to [2.6], [0.2] and [0.9]: functions."""

import operator as signs
import unittest

from slopewords.base.polys import common_poly, poly_product, poly_slope, poly_sum
from slopewords.errors import InvalidFunction, InvalidNumber, InvalidOperation, InvalidPoly
from slopewords.func.functions import MAX_RAISED, MAX_SLOPES, MOST_JUDGED, Function, are_independent
from tests.support import D3, KINDS, LOGS, LONG, NO, ONE, PRIMES, X2, X3, Source, check_error, check_kept
from tests.support import check_refusals, number_kind, poly_kind, prime_kind, wrong_functions, wrong_numbers

SIGNS = (signs.add, signs.sub, signs.mul, signs.floordiv)


def slow_slope(function):
    """The slope, by the rule of [2.2]."""
    prime, top, bottom = function.prime, function.top, function.bottom
    upper = poly_sum(prime, poly_product(prime, poly_slope(prime, top), bottom),
                     poly_product(prime, top, poly_slope(prime, bottom)), times=-1)
    return Function(prime, upper, poly_product(prime, bottom, bottom))


class KeptFormTest(unittest.TestCase):
    def setUp(self):
        self.source = Source(21)

    def check_form(self, function):
        self.assertEqual(function.bottom[-1], 1)
        self.assertEqual(common_poly(function.prime, function.top, function.bottom), (1,))

    def test_constants(self):
        self.assertEqual((MAX_SLOPES, MAX_RAISED, MOST_JUDGED), (20, 20, 8))

    def test_2_1_lowest_terms(self):
        for prime in PRIMES:
            for _ in range(40):
                top, bottom, both = [self.source.poly(prime, self.source.number(0, 5)) for _ in range(3)]
                function = Function(prime, poly_product(prime, top, both), poly_product(prime, bottom, both))
                self.assertEqual(function, Function(prime, top, bottom))
                self.assertEqual(poly_product(prime, function.top, bottom), poly_product(prime, top, function.bottom))
                self.assertEqual(function.prime, prime)
                self.assertEqual(function.degree, len(top) - len(bottom))
                self.check_form(function)

    def test_2_1_zero(self):
        for prime in PRIMES:
            zero = Function(prime, (), (1, 1))
            self.assertEqual((zero.top, zero.bottom, zero.degree), ((), (1,), None))
            self.assertEqual(zero, Function.number(prime, 0))
            self.assertIs(bool(zero), False)
            self.assertIs(bool(Function.number(prime, 1)), True)

    def test_2_1_degree_60(self):
        most = (1,) * 61
        function = Function(2, most, (0,) * 60 + (1,))
        self.assertEqual((function.top, function.bottom, function.degree), (most, (0,) * 60 + (1,), 0))
        self.assertEqual(len((function * function).top), 121)
        self.assertEqual(function * function // function, function)
        for longer in ((0,) * 61 + (1,), (1,) * 62):
            with self.assertRaises(InvalidPoly):
                Function(2, longer, (1,))
            with self.assertRaises(InvalidPoly):
                Function(2, (1,), longer)

    def test_never_changes(self):
        for name in ("prime", "top", "bottom", "degree"):
            with self.assertRaises(AttributeError):
                setattr(X3, name, 2)

    def test_forms_of_results(self):
        for prime in PRIMES:
            for _ in range(30):
                one, other = self.source.nonzero(prime, 4, 4), self.source.nonzero(prime, 4, 4)
                for made in (one + other, one - other, one * other, one // other, -one, one ** 3, one.slope(),
                             one.slope(times=2), *one.parts(), one.spread()):
                    self.check_form(made)
                    self.assertEqual(made.prime, prime)


class ClassMethodsTest(unittest.TestCase):
    def test_refusals(self):
        check_refusals(self, Function, [prime_kind(), poly_kind((1, 1)), poly_kind((0, 1))])
        check_refusals(self, Function.number, [prime_kind(), number_kind(5)])
        check_refusals(self, Function.letter, [prime_kind()])

    def test_then_bottom_0(self):
        with self.assertRaises(InvalidOperation):
            Function(3, (1,), ())
        with self.assertRaises(InvalidOperation):
            Function(3, (), ())
        with self.assertRaises(InvalidPoly):
            Function(3, (True,), ())
        with self.assertRaises(InvalidNumber):
            Function(4, (1,), ())

    def test_number_and_letter(self):
        for prime in PRIMES:
            for number in (-LONG + 1, -8, -1, 0, 1, 6, 7, LONG - 1):
                due = (number % prime,) if number % prime else ()
                self.assertEqual((Function.number(prime, number).top, Function.number(prime, number).bottom),
                                 (due, (1,)))
            self.assertEqual((Function.letter(prime).top, Function.letter(prime).bottom), ((0, 1), (1,)))

    def test_of_parts(self):
        for bad in wrong_functions() + [(), (X3, None, X3), [X3, X3, X3], (X3, X3, D3), (X3, X2, 1), None]:
            if not (type(bad) is tuple and bad and all(isinstance(part, Function) for part in bad)):
                check_error(self, InvalidFunction, Function.of_parts, [bad], {})
        for bad in ((X3,), (X3, X3), (X3,) * 4, (X2,), (X2, X3), (X3, X3, X2), (X2,) * 3, (X3,) * 40):
            check_error(self, InvalidOperation, Function.of_parts, [bad], {})


class SignsTest(unittest.TestCase):
    def setUp(self):
        self.source = Source(22)

    def test_field(self):
        for prime in PRIMES:
            one_more = Function.number(prime, 1)
            for _ in range(30):
                one, other, third = [self.source.function(prime, 4, 3) for _ in range(3)]
                self.assertEqual((one + other) + third, one + (other + third))
                self.assertEqual((one * other) * third, one * (other * third))
                self.assertEqual(one * (other + third), one * other + one * third)
                self.assertEqual((one + other, one * other), (other + one, other * one))
                self.assertEqual(one - other, one + -other)
                self.assertEqual(one - one, Function.number(prime, 0))
                self.assertEqual((one - other) + other, one)
                if other:
                    self.assertEqual(one // other * other, one)
                    self.assertEqual(other // other, one_more)

    def test_sums_by_crosswise_products(self):
        for prime in PRIMES:
            for _ in range(40):
                one, other = self.source.function(prime, 5, 5), self.source.function(prime, 5, 5)
                top = poly_sum(prime, poly_product(prime, one.top, other.bottom),
                               poly_product(prime, other.top, one.bottom))
                bottom = poly_product(prime, one.bottom, other.bottom)
                self.assertEqual(one + other, Function(prime, top, bottom))
                self.assertEqual(one * other, Function(prime, poly_product(prime, one.top, other.top), bottom))

    def test_powers(self):
        for prime in PRIMES:
            one = self.source.nonzero(prime)
            power = Function.number(prime, 1)
            for many in range(21):
                self.assertEqual(one ** many, power)
                power = power * one
            self.assertEqual(Function.number(prime, 0) ** 0, Function.number(prime, 1))
            self.assertEqual(Function.number(prime, 0) ** 20, Function.number(prime, 0))
        for bad in wrong_numbers(0, 20):
            check_kept(self, check_error(self, InvalidNumber, signs.pow, [X3, bad], {}), bad)

    def test_other_kinds(self):
        for value in wrong_functions():
            for sign in SIGNS:
                check_error(self, TypeError, sign, [X3, value], {})
                check_error(self, TypeError, sign, [value, X3], {})
            self.assertIs(X3 == value, False)
            self.assertIs(X3 != value, True)
        with self.assertRaises(TypeError):
            iter(X3)
        with self.assertRaises(TypeError):
            list(X3)

    def test_unlike_primes(self):
        for sign in SIGNS:
            check_error(self, InvalidOperation, sign, [X2, X3], {})
        self.assertNotEqual(Function.number(2, 1), Function.number(3, 1))
        self.assertIs(Function.number(2, 0) == NO, False)

    def test_division_by_0(self):
        check_error(self, InvalidOperation, signs.floordiv, [X3, NO], {})
        check_error(self, InvalidOperation, signs.floordiv, [NO, NO], {})

    def test_texts(self):
        rows = (
            ((), (1,), "0"), ((1,), (1,), "1"), ((2,), (1,), "2"), ((0, 1), (1,), "x"), ((0, 2), (1,), "2 x"),
            ((1, 0, 1), (1,), "1 + x^2"), ((2, 1, 2), (1,), "2 + x + 2 x^2"), ((1,), (0, 1), "(1)/(x)"),
            ((1, 1), (1, 0, 1), "(1 + x)/(1 + x^2)"), ((0, 0, 0, 1), (1, 1), "(x^3)/(1 + x)"),
        )
        for top, bottom, text in rows:
            self.assertEqual(str(Function(3, top, bottom)), text)
        self.assertEqual(str(X2 ** 20 * X2 ** 20), "x^40")


class SlopesTest(unittest.TestCase):
    def setUp(self):
        self.source = Source(23)

    def functions(self, prime, many=25):
        """Functions, also with poles of orders that the prime divides."""
        found = []
        for _ in range(many):
            one = self.source.function(prime, 5, 3)
            power = self.source.nonzero(prime, 1, 1) ** self.source.choice((1, 2, prime, prime + 1))
            found.append(one * power)
        return found

    def test_2_2_slope(self):
        for prime in PRIMES:
            for function in self.functions(prime):
                self.assertEqual(function.slope(), slow_slope(function))
                again = function
                for many in range(prime + 2):
                    self.assertEqual(function.slope(times=many), again)
                    again = again.slope()
                self.assertFalse(function.slope(times=prime))
                self.assertFalse((function ** prime).slope())

    def test_2_2_bounds(self):
        self.assertEqual(X3.slope(times=0), X3)
        self.assertEqual(X3.slope(times=20), NO)
        for bad in wrong_numbers(0, 20):
            check_kept(self, check_error(self, InvalidNumber, X3.slope, [], {"times": bad}), bad)

    def test_2_3_parts(self):
        for prime in PRIMES:
            letter = Function.letter(prime)
            for function in self.functions(prime):
                parts = function.parts()
                self.assertEqual((len(parts), type(parts)), (prime, tuple))
                total = Function.number(prime, 0)
                for place, part in enumerate(parts):
                    total = total + letter ** place * part.spread()
                self.assertEqual(total, function)
                self.assertEqual(Function.of_parts(parts), function)
                self.assertEqual(function.last_part(), parts[-1])
                self.assertEqual(function.slope(times=prime - 1), -function.last_part().spread())
                degrees = [prime * part.degree + place for place, part in enumerate(parts) if part]
                self.assertEqual(function.degree, max(degrees, default=None))

    def test_2_3_part_without_numbers(self):
        self.assertEqual(X2.parts(), (Function.number(2, 0), Function.number(2, 1)))
        self.assertEqual((X2.parts()[0].top, X2.parts()[0].degree), ((), None))

    def test_2_3_parts_of_any_functions(self):
        for prime in PRIMES:
            for _ in range(10):
                parts = tuple(self.source.function(prime, 2, 2) for _ in range(prime))
                self.assertEqual(Function.of_parts(parts).parts(), parts)

    def test_2_4_spread(self):
        for prime in PRIMES:
            for function in self.functions(prime):
                spread = function.spread()
                self.assertEqual(spread, function ** prime)
                self.assertEqual(spread.gathered(), function)
                self.assertFalse(spread.slope())
                if function.slope():
                    with self.assertRaises(InvalidOperation):
                        function.gathered()
                else:
                    self.assertEqual(function.gathered().spread(), function)
            number = Function.number(prime, 1)
            self.assertEqual((number.spread(), number.gathered()), (number, number))
            self.assertEqual(Function.number(prime, 0).gathered(), Function.number(prime, 0))


class IndependenceTest(unittest.TestCase):
    def test_2_5_by_making(self):
        source = Source(24)
        for prime in PRIMES:
            letter = Function.letter(prime)
            for many in range(1, prime + 1):
                base = tuple(letter ** place * source.nonzero(prime).spread() for place in range(many))
                self.assertIs(are_independent(base), True)
                mixed = [source.function(prime, 2, 1).spread() * function for function in base]
                total = Function.number(prime, 0)
                for function in mixed:
                    total = total + function
                self.assertIs(are_independent((*base, total)), False)
            powers = tuple(letter ** place for place in range(8))
            self.assertIs(are_independent(powers[:prime]), True)
            self.assertIs(are_independent(powers[:prime + 1]), False)

    def test_2_5_edges(self):
        self.assertIs(are_independent((NO,)), False)
        self.assertIs(are_independent((X3,)), True)
        self.assertIs(are_independent((X3, NO)), False)
        self.assertIs(are_independent((X3,) * 8), False)

    def test_2_5_wronskian(self):
        source = Source(25)
        for prime in (3, 5, 7):
            for _ in range(20):
                one, other = source.function(prime), source.function(prime)
                due = bool(one * other.slope() - other * one.slope())
                self.assertIs(are_independent((one, other)), due)

    def test_refusals(self):
        for bad in KINDS + [(), (X3,) * 9, [X3], (X3, None), (X2, X3, 1), (X3, LOGS), (X2,) * 8 + (X3,)]:
            if not (type(bad) is tuple and 0 < len(bad) < 9 and all(isinstance(one, Function) for one in bad)):
                check_error(self, InvalidFunction, are_independent, [bad], {})
        check_error(self, InvalidOperation, are_independent, [(X2, X3)], {})
        check_error(self, InvalidOperation, are_independent, [(X3,) * 7 + (X2,)], {})

    def test_2_6_sayings(self):
        self.assertEqual((X3 + X3 ** 3).slope(), ONE)
        self.assertIs(are_independent((ONE, X3 ** 3)), False)


if __name__ == "__main__":
    unittest.main()
