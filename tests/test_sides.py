"""[11.1] to [11.7]: right sides."""

import unittest

from slopewords.errors import InvalidFunction, InvalidOperation
from slopewords.func.functions import Function, are_independent
from slopewords.func.slopes import is_slope
from slopewords.made.rows import image_base, in_span, made_base, made_number, span_base
from slopewords.made.sides import conditions, dual_base, first_bar, is_bar, is_side_paper, made_from, pairing
from slopewords.made.sides import side_paper, turned_gap
from slopewords.oper.changes import turned_over
from slopewords.oper.operators import Operator
from tests.support import BAR, D3, EMPTY3, KINDS, LOGS, NO, ONE, PRIMES, X2, X3, Kind, Source, check_error
from tests.support import check_refusals, function_kind, operator_kind, value_kind


def base_kind(good):
    """A tuple of at least one function; those of unlike primes are told elsewhere."""
    bad = [value for value in KINDS if value not in ((X3,), (X2, X3))]
    return Kind(good, InvalidFunction, bad + [[ONE], (ONE, None), (None, ONE), (D3,)])


def zero(prime):
    return Function.number(prime, 0)


def lead_of(function):
    return [place for place, part in enumerate(function.parts()) if part][0]


class Samples(unittest.TestCase):
    def setUp(self):
        self.source = Source(111)

    def some(self, prime, least=0, most=3):
        """An operator that often makes some functions 0."""
        operator = self.source.operator(prime, self.source.number(least, most))
        if self.source.number(0, 2):
            function = self.source.nonzero(prime, 2, 1)
            operator = operator * Operator.factor(function.slope() // function)
        return operator

    def function(self, prime):
        return self.source.function(prime, 3, 1)

    def of_t(self, prime):
        return self.source.nonzero(prime, 1, 1)

    def independent(self, prime):
        """As many independent functions as the prime."""
        functions = ()
        while len(functions) < prime or not are_independent(functions):
            functions = tuple(self.function(prime) for _ in range(prime))
        return functions


class KindsTest(Samples):
    def test_refusals(self):
        operator, function = operator_kind(LOGS), function_kind(X3)
        check_refusals(self, pairing, [function, function])
        check_refusals(self, conditions, [operator])
        for call in (made_from, first_bar, side_paper):
            check_refusals(self, call, [operator, function])
        for call in (is_side_paper, is_bar):
            check_refusals(self, call, [operator, function, value_kind(None)])
        check_refusals(self, dual_base, [base_kind((ONE, X3, X3 * X3))])
        check_refusals(self, turned_gap, [operator, function, function])

    def test_unlike_primes(self):
        for one, other in ((X2, X3), (X3, X2)):
            check_error(self, InvalidOperation, pairing, [one, other], {})
        for operator in (BAR, Operator(2, ())):
            for call in (made_from, first_bar, side_paper):
                check_error(self, InvalidOperation, call, [operator, X3], {})
            for call in (is_side_paper, is_bar):
                check_error(self, InvalidOperation, call, [operator, X3, None], {})
        for operator, one, other in ((BAR, X3, X3), (LOGS, X2, X3), (LOGS, X3, X2)):
            check_error(self, InvalidOperation, turned_gap, [operator, one, other], {})
        for functions in ((X2, X3), (X3, X3, X2), (X3,) * 28 + (X2,)):
            check_error(self, InvalidOperation, dual_base, [functions], {})

    def test_dual_bases_refused(self):
        for functions in ((ONE,), (ONE, X3), (ONE, X3, X3), (NO,) * 3, (ONE, X3, X3 ** 2, X3), (ONE,) * 29):
            check_error(self, InvalidOperation, dual_base, [functions], {})

    def test_judged_values(self):
        values = KINDS + [
            ("made",), ("made", X3, X3), ["made", X3 ** 2], (X3 ** 2, "made"), ("made", X2), ("made", None),
            ("made", (X3 ** 2,)), ("bar",), ("bar", X2), ("bar", None), ("bar", NO), ("made", NO), ("MADE", X3 ** 2)]
        for value in values:
            self.assertIs(is_side_paper(LOGS, ONE, value), False)
            self.assertIs(is_side_paper(LOGS, X3, value), False)
            self.assertIs(is_bar(LOGS, X3, value), isinstance(value, Function) and value == X3)
            self.assertIs(is_bar(LOGS, ONE, value), False)
        self.assertIs(is_side_paper(LOGS, ONE, ("made", X3 ** 2)), True)
        self.assertIs(is_side_paper(LOGS, ONE, ("bar", X3 ** 2)), False)
        self.assertIs(is_side_paper(LOGS, X3, ("made", X3)), False)


class PairingsTest(Samples):
    def test_11_1_pairing(self):
        for prime in PRIMES:
            letter = Function.letter(prime)
            for low in range(prime):
                for high in range(prime):
                    due = Function.number(prime, 1 if low + high == prime - 1 else 0)
                    self.assertEqual(pairing(letter ** low, letter ** high), due)

    def test_11_1_rules(self):
        for prime in PRIMES:
            for _ in range(8):
                one, other, third = self.function(prime), self.function(prime), self.function(prime)
                factor = self.of_t(prime)
                found = pairing(one, third)
                self.assertEqual(found, (one * third).parts()[-1])
                self.assertEqual(found, pairing(third, one))
                self.assertEqual(pairing(one + other, third), found + pairing(other, third))
                self.assertEqual(pairing(one * factor.spread(), third), found * factor)
                self.assertIs(is_slope(one * third), not found)
                if one:
                    powers = [Function.letter(prime) ** place for place in range(prime)]
                    self.assertTrue(any(pairing(one, by) for by in powers))

    def test_11_2_turned_over(self):
        for prime in PRIMES:
            for _ in range(6):
                operator, one, other = self.some(prime), self.function(prime), self.function(prime)
                over = turned_over(operator)
                self.assertEqual(pairing(operator(one), other), pairing(one, over(other)))
                gap = turned_gap(operator, one, other)
                self.assertEqual(gap.slope(), operator(one) * other - one * over(other))
                self.assertFalse(gap.parts()[0])
            self.assertEqual(turned_gap(Operator(prime, ()), one, other), zero(prime))


class SidesTest(Samples):
    def test_11_3_just_one(self):
        for prime in PRIMES:
            seen = set()
            for _ in range(25):
                operator, function = self.some(prime), self.function(prime)
                paper = side_paper(operator, function)
                seen.add(paper[0])
                found, bar = made_from(operator, function), first_bar(operator, function)
                self.assertIs(is_side_paper(operator, function, paper), True)
                self.assertEqual(paper, ("bar", bar) if found is None else ("made", found))
                self.assertIs(found is None, bar is not None)
                if bar is None:
                    self.assertEqual(operator(found), function)
                else:
                    self.assertFalse(turned_over(operator)(bar))
                    self.assertTrue(pairing(bar, function))
                    self.assertIs(is_bar(operator, function, bar), True)
                    self.assertIs(is_side_paper(operator, function, ("bar", bar + bar)), prime != 2)
            self.assertEqual(seen, {"made", "bar"})

    def test_11_3_made(self):
        for prime in PRIMES:
            for _ in range(8):
                operator, function = self.some(prime), self.function(prime)
                made = operator(function)
                self.assertEqual(operator(made_from(operator, made)), made)
                self.assertIs(is_side_paper(operator, made, ("made", function)), True)
                self.assertIsNone(first_bar(operator, made))

    def test_11_4_clean(self):
        for prime in PRIMES:
            for _ in range(8):
                operator, function = self.some(prime), self.function(prime)
                clean = made_from(operator, operator(function))
                base = made_base(operator)
                parts = clean.parts()
                for member in base:
                    self.assertFalse(parts[lead_of(member)])
                    more = clean + member * self.of_t(prime).spread()
                    self.assertEqual(made_from(operator, operator(more)), clean)
                    self.assertIs(is_side_paper(operator, operator(function), ("made", more)), True)
                if base:
                    self.assertIs(in_span(base, function - clean), True)
                else:
                    self.assertEqual(clean, function)

    def test_11_5_conditions(self):
        for prime in PRIMES:
            for _ in range(8):
                operator, function = self.some(prime), self.function(prime)
                told = conditions(operator)
                self.assertEqual(told, made_base(turned_over(operator)))
                self.assertEqual(len(image_base(operator)), prime - len(told))
                barring = [condition for condition in told if pairing(condition, function)]
                self.assertEqual(first_bar(operator, function), barring[0] if barring else None)
                self.assertIs(bool(barring), made_from(operator, function) is None)
                for made in image_base(operator):
                    self.assertFalse(any(pairing(condition, made) for condition in told))

    def test_edges(self):
        for prime in PRIMES:
            none, function = zero(prime), self.source.nonzero(prime)
            powers = tuple(Function.letter(prime) ** place for place in range(prime))
            for operator in (Operator(prime, ()), Operator.slopes(prime, prime)):
                self.assertEqual(conditions(operator), powers)
                self.assertEqual(made_from(operator, none), none)
                self.assertIsNone(made_from(operator, function))
                self.assertIn(first_bar(operator, function), powers)
                self.assertEqual(side_paper(operator, none), ("made", none))
                self.assertIs(is_side_paper(operator, none, ("made", function)), True)
            single = self.source.operator(prime, 0)
            self.assertEqual(conditions(single), ())
            self.assertEqual(side_paper(single, function), ("made", function // single.head))
            self.assertIsNone(first_bar(single, function))

    def test_long_operators(self):
        for prime in PRIMES:
            operator = self.source.operator(prime, 8) * self.source.operator(prime, 2)
            function = operator(Function.letter(prime))
            self.assertIs(is_side_paper(operator, function, ("made", Function.letter(prime))), True)
            self.assertEqual(operator(side_paper(operator, function)[1]), function)


class DualsTest(Samples):
    def test_11_6_duals(self):
        for prime in PRIMES:
            for _ in range(3):
                base = self.independent(prime)
                dual = dual_base(base)
                self.assertEqual(len(dual), prime)
                for low, one in enumerate(base):
                    for high, other in enumerate(dual):
                        self.assertEqual(pairing(one, other), Function.number(prime, 1 if low == high else 0))
                self.assertEqual(dual_base(dual), base)
                function = self.function(prime)
                total = zero(prime)
                for one, other in zip(base, dual):
                    total = total + pairing(function, other).spread() * one
                self.assertEqual(total, function)


class SayingsTest(unittest.TestCase):
    def test_11_7(self):
        self.assertEqual((made_base(LOGS), pairing(ONE, X3), made_from(LOGS, X3)), ((ONE,), NO, None))
        two = X3 + X3
        self.assertEqual((made_from(LOGS, X3), made_from(LOGS, two), made_from(LOGS, X3 + two)), (None, None, NO))
        other = X3 ** 2 + ONE
        self.assertEqual(LOGS(other), LOGS(X3 ** 2))
        self.assertNotEqual(made_from(LOGS, LOGS(other)), other)
        self.assertEqual((made_number(EMPTY3), span_base((ONE,))), (3, (ONE,)))


if __name__ == "__main__":
    unittest.main()
