"""[4.1] to [4.5]: slopes, and slopes of logarithms."""

import unittest

from slopewords.base.polys import irreducibles, poly_factors, poly_power, poly_product
from slopewords.errors import InvalidOperation
from slopewords.func.functions import Function
from slopewords.func.places import poles, residue, trace
from slopewords.func.slopes import MAX_SHRUNK, is_log_slope, is_slope, log_fault, log_slope, log_source, shrunk
from slopewords.func.slopes import slope_source, turn_of
from slopewords.oper.division import right_division
from slopewords.oper.operators import Operator
from tests.support import NO, ONE, PRIMES, X2, X3, Source, check_error, check_refusals, function_kind, number_kind
from tests.support import poly_kind, prime_kind, slow_product


class Samples(unittest.TestCase):
    def setUp(self):
        self.source = Source(41)

    def functions(self, prime, many=20):
        """Functions, also with poles of orders that the prime divides."""
        found = [Function.number(prime, 0), Function.number(prime, 1), Function.letter(prime)]
        for _ in range(many):
            power = self.source.nonzero(prime, 1, 1) ** self.source.choice((1, 2, prime, prime + 1))
            found.append(self.source.function(prime, 5, 3) * power)
        return found

    def log_slopes(self, prime, many=15):
        """Slopes of logarithms, straight from their definition."""
        found = [Function.number(prime, 0)]
        for _ in range(many):
            function = self.source.nonzero(prime, 4, 4)
            found.append(function.slope() // function)
        return found


class SlopesTest(Samples):
    def test_constant(self):
        self.assertEqual(MAX_SHRUNK, 20)

    def test_refusals(self):
        for call in (is_slope, slope_source, shrunk, is_log_slope, log_source, log_fault, turn_of):
            check_refusals(self, call, [function_kind(X3)])
        check_refusals(self, shrunk, [function_kind(X3)], "times", number_kind(2, 0, 20))
        check_refusals(self, log_slope, [prime_kind(), poly_kind((1, 1))])
        check_error(self, InvalidOperation, log_slope, [3, ()], {})

    def test_4_1_slopes_have_sources(self):
        for prime in PRIMES:
            for function in self.functions(prime):
                slope = function.slope()
                source = slope_source(slope)
                self.assertIs(is_slope(slope), True)
                self.assertEqual(source.slope(), slope)
                self.assertFalse(source.parts()[0])
                self.assertEqual(source + function.parts()[0].spread(), function)

    def test_4_1_either_or(self):
        for prime in PRIMES:
            found = []
            for function in self.functions(prime):
                due = not function.last_part()
                found.append(due)
                self.assertIs(is_slope(function), due)
                self.assertIs(is_slope(function - function.last_part().spread() * Function.letter(prime) ** (prime - 1)),
                              True)
                if due:
                    self.assertEqual(slope_source(function).slope(), function)
                else:
                    self.assertIsNone(slope_source(function))
            self.assertEqual(set(found), {True, False})
        self.assertEqual(slope_source(NO), NO)


class ShrinkingTest(Samples):
    def test_4_2_last_part(self):
        for prime in PRIMES:
            for function in self.functions(prime):
                self.assertEqual(shrunk(function), function.last_part())
                self.assertEqual(shrunk(function, times=0), function)
                self.assertEqual(shrunk(function, times=3), shrunk(shrunk(shrunk(function))))
                self.assertEqual(function.slope(times=prime - 1), -(shrunk(function) ** prime))
                self.assertEqual(not shrunk(function), is_slope(function))
        self.assertEqual(shrunk(X2, times=20), Function.number(2, 0))
        self.assertEqual(shrunk(ONE // X3, times=20), ONE // X3)

    def test_4_2_sums_and_multiples(self):
        for prime in PRIMES:
            for _ in range(15):
                one, other = self.source.function(prime, 5, 3), self.source.function(prime, 5, 3)
                self.assertEqual(shrunk(one + other), shrunk(one) + shrunk(other))
                self.assertEqual(shrunk(other ** prime * one), other * shrunk(one))

    def test_4_2_residues_and_poles(self):
        for prime in PRIMES:
            for function in self.functions(prime):
                orders = dict(poles(shrunk(function)))
                for place, order in poles(function):
                    if place == "end":
                        self.assertLess(orders.get(place, 0), order)
                        continue
                    self.assertLess(orders.get(place, 0), max(order, 2))
                    power = poly_power(prime, residue(shrunk(function), place), prime)
                    self.assertFalse(trace(prime, place, power) - trace(prime, place, residue(function, place)))
                    self.check_same_below(prime, power, residue(function, place), place)
                self.assertLessEqual(set(orders), set(dict(poles(function))))

    def check_same_below(self, prime, one, other, place):
        difference = Function(prime, one, (1,)) - Function(prime, other, (1,))
        self.assertNotIn((place, 1), poles(difference // Function(prime, place, (1,))))


class LogSlopesTest(Samples):
    def test_4_3_log_slopes(self):
        for prime in PRIMES:
            for function in self.log_slopes(prime):
                self.assertIs(is_log_slope(function), True)
                self.assertIsNone(log_fault(function))
                self.assertEqual(shrunk(function), function)
                self.assertFalse(function ** prime + function.slope(times=prime - 1))
                source = log_source(function)
                self.assertEqual(source[-1], 1)
                self.assertEqual(log_slope(prime, source), function)
                self.assertTrue(all(many < prime for _, many in poly_factors(prime, source)))
                for place, many in poly_factors(prime, source):
                    self.assertEqual(residue(function, place), (many,))

    def test_4_3_sums_and_opposites(self):
        for prime in PRIMES:
            found = self.log_slopes(prime)
            for one, other in zip(found, found[1:]):
                self.assertTrue(is_log_slope(one + other))
                self.assertTrue(is_log_slope(-one))

    def test_4_3_three_ways(self):
        for prime in PRIMES:
            for function in self.functions(prime) + self.log_slopes(prime, 5):
                due = not function ** prime + function.slope(times=prime - 1)
                by_poles = not function or function.degree < 0 and all(
                    order == 1 and len(residue(function, place)) < 2 for place, order in poles(function))
                self.assertEqual(by_poles, due)
                self.assertIs(is_log_slope(function), due)
                self.assertEqual(log_fault(function) is None, due)
                self.assertEqual(log_source(function) is None, not due)

    def test_4_3_polynomials(self):
        for prime in PRIMES:
            for degree in (0, 1, 5, 60):
                poly = self.source.poly(prime, degree)
                function = log_slope(prime, poly)
                due = Function(prime, poly, (1,))
                self.assertEqual(function, due.slope() // due)
            self.assertEqual(log_source(Function.number(prime, 0)), (1,))

    def test_4_3_long_source(self):
        place = next(irreducibles(7, 6))
        function = log_slope(7, place) * Function.number(7, 6)
        other = list(irreducibles(7, 6))[1:3]
        for further in other:
            function = function + log_slope(7, further) * Function.number(7, 6)
        source = log_source(function)
        self.assertEqual(len(source), 6 * 6 * 3 + 1)
        due = (1,)
        for further in [place, *other]:
            self.assertEqual(residue(function, further), (6,))
            for _ in range(6):
                due = slow_product(7, due, further)
        self.assertEqual(source, due)

    def test_4_3_faults(self):
        rows = (
            (X2, ("degree",)), (Function.number(7, 3), ("degree",)), (NO, None),
            (Function(5, (1,), (0, 0, 1)), ("order", (0, 1))), (Function(5, (1, 0, 0, 0, 1), (0, 0, 1)), ("order", (0, 1))),
            (Function(3, (0, 0, 1), (0, 1, 1)), ("degree",)), (Function(3, (1,), (1, 0, 1)), ("residue", (1, 0, 1))),
            (Function(3, (1,), poly_product(3, (0, 0, 1), (1, 0, 1))), ("order", (0, 1))),
            (Function(3, (1,), poly_product(3, (1, 0, 1), (1, 2, 1))), ("order", (1, 1))),
            (Function(3, (1,), (1, 0, 2, 0, 1)), ("order", (1, 0, 1))),
            (Function(2, (1,), (1, 1, 1)), None), (Function(2, (0, 1), (1, 1, 1)), ("residue", (1, 1, 1))), (Function(2, (0, 1), (1, 0, 1)), ("order", (1, 1))),
        )
        for function, due in rows:
            self.assertEqual(log_fault(function), due)
        self.assertEqual(log_fault(Function(3, (1,), (1, 0, 1)) + ONE), ("degree",))

    def test_4_3_later_place(self):
        function = log_slope(3, (1, 1)) + Function(3, (1,), (2, 1, 1))
        self.assertEqual(log_fault(function), ("residue", (2, 1, 1)))
        function = log_slope(3, (1, 1)) + Function(3, (1,), (1, 2, 1))
        self.assertEqual(log_fault(function), ("order", (1, 1)))


class TurnsTest(Samples):
    def test_4_4_turn(self):
        for prime in PRIMES:
            for function in self.functions(prime):
                turn = turn_of(function)
                self.assertEqual(turn.spread(), function ** prime + function.slope(times=prime - 1))
                self.assertEqual(turn, function - shrunk(function))
            for _ in range(10):
                one, other = self.source.function(prime), self.source.function(prime)
                self.assertEqual(turn_of(one + other), turn_of(one) + turn_of(other))
                self.assertIs(turn_of(one) == turn_of(other), is_log_slope(one - other))
            for function in self.log_slopes(prime, 5):
                self.assertFalse(turn_of(function))

    def test_4_4_power_of_an_operator(self):
        for prime in PRIMES:
            for _ in range(4):
                function = self.source.function(prime, 2, 1)
                due = Operator.slopes(prime, prime) - Operator.times(turn_of(function).spread())
                self.assertEqual(Operator.factor(function) ** prime, due)
                self.assertFalse(right_division(due, Operator.factor(function))[1])

    def test_4_5_sayings(self):
        self.assertEqual((shrunk(X3), shrunk(X3 * X3)), (NO, ONE))
        self.assertFalse(turn_of(ONE // X3))
        for prime in PRIMES:
            self.assertEqual(turn_of(Function.number(prime, 1)), Function.number(prime, 1))
        # Traces that are not 0 keep 1 / t from being a turn; those of a turn are all 0.
        for function in self.functions(2):
            for place, _ in poles(turn_of(function)):
                self.assertEqual(trace(2, place, residue(turn_of(function), place)), 0)
        self.assertEqual(trace(2, (0, 1), residue(Function(2, (1,), (0, 1)), (0, 1))), 1)


if __name__ == "__main__":
    unittest.main()
