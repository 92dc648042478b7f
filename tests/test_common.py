"""[8.1] to [8.7]: common divisors and multiples of operators."""

import unittest

from slopewords.errors import InvalidOperation
from slopewords.func.functions import Function
from slopewords.line.tables import table_rank
from slopewords.made.rows import made_base, made_number, rows_of, span_base
from slopewords.oper.changes import turned_over
from slopewords.oper.common import is_right_paper, left_common, left_multiple, right_common, right_multiple, right_paper
from slopewords.oper.division import is_left_factor, is_right_factor, left_division, right_quotient
from slopewords.oper.operators import Operator
from tests.support import D2, D3, EMPTY3, KINDS, LOGS, ONE, PRIMES, X2, X3, Source, check_error, check_refusals
from tests.support import operator_kind, value_kind

DIVISORS = (right_common, left_common, right_paper)
MULTIPLES = (left_multiple, right_multiple)


def unit(prime):
    return Operator.slopes(prime, 0)


def empty(prime):
    return Operator(prime, ())


class Samples(unittest.TestCase):
    def setUp(self):
        self.source = Source(81)

    def some(self, prime, least=0, most=3):
        return self.source.operator(prime, self.source.number(least, most))

    def pair(self, prime):
        """Two operators, often with a common right divisor, and this one."""
        common = self.some(prime, 0, 2) if self.source.number(0, 2) else unit(prime)
        return self.some(prime, 0, 2) * common, self.some(prime, 0, 2) * common, common

    def check_left_pair(self, one, other, found):
        """The chain of left rests has the same last member."""
        while other:
            one, other = other, left_division(one, other)[1]
        self.assertEqual(found.degree, one.degree)
        self.assertEqual(found, one * Operator.times(Function.number(one.prime, 1) // one.head))


class KindsTest(Samples):
    def test_refusals(self):
        operator = operator_kind(LOGS)
        for call in DIVISORS + MULTIPLES:
            check_refusals(self, call, [operator, operator])
        check_refusals(self, is_right_paper, [operator, operator, value_kind(None)])

    def test_empty_and_unlike(self):
        for call in DIVISORS:
            check_error(self, InvalidOperation, call, [EMPTY3, EMPTY3], {})
            check_error(self, InvalidOperation, call, [D2, D3], {})
            check_error(self, operator_kind(None).error, call, [EMPTY3, ()], {})
        for call in MULTIPLES:
            for one, other in ((EMPTY3, EMPTY3), (D3, EMPTY3), (EMPTY3, D3), (D2, D3), (D2, EMPTY3)):
                check_error(self, InvalidOperation, call, [one, other], {})
        check_error(self, InvalidOperation, is_right_paper, [EMPTY3, EMPTY3, None], {})
        check_error(self, InvalidOperation, is_right_paper, [D2, D3, None], {})

    def test_judged_values(self):
        paper = right_paper(LOGS, D3)
        self.assertIs(is_right_paper(LOGS, D3, paper), True)
        for value in KINDS + [paper[:2], list(paper), (*paper, D3), (paper,), (D3, None, None), (D3, X3, ONE)]:
            self.assertIs(is_right_paper(LOGS, D3, value), False)
        self.assertIs(is_right_paper(LOGS, D3, (D2, Operator.times(X2), Operator(2, ()))), False)


class RightTest(Samples):
    def test_8_1_greatest(self):
        for prime in PRIMES:
            for _ in range(8):
                one, other, common = self.pair(prime)
                found = right_common(one, other)
                self.assertEqual(found.head, Function.number(prime, 1))
                self.assertEqual(found, right_common(other, one))
                for operator in (one, other):
                    self.assertIs(is_right_factor(operator, found), True)
                self.assertIs(is_right_factor(found, common), True)

    def test_8_1_edges(self):
        for prime in PRIMES:
            one, other = self.some(prime, 1, 3), self.some(prime, 0, 2)
            self.assertEqual(right_common(one, empty(prime)), one.monic())
            self.assertEqual(right_common(empty(prime), one), one.monic())
            self.assertEqual(right_common(other * one, one), one.monic())
            self.assertEqual(right_common(one, other * one), one.monic())
            self.assertEqual(right_common(one, one), one.monic())
            self.assertEqual(right_common(one, self.source.operator(prime, 0)), unit(prime))
            self.assertEqual(right_common(self.source.operator(prime, 0), empty(prime)), unit(prime))

    def test_8_2_sums(self):
        for prime in PRIMES:
            for _ in range(8):
                one, other, _ = self.pair(prime)
                found, first, second = right_paper(one, other)
                self.assertEqual(found, right_common(one, other))
                self.assertEqual(first * one + second * other, found)
                self.assertLess(first.degree, max(other.degree - found.degree, 0))
                self.assertIs(is_right_paper(one, other, (found, first, second)), True)

    def test_8_2_edges(self):
        for prime in PRIMES:
            one, other = self.some(prime, 1, 3), self.some(prime, 0, 2)
            undone = Operator.times(Function.number(prime, 1) // one.head)
            self.assertEqual(right_paper(one, empty(prime)), (one.monic(), undone, empty(prime)))
            self.assertEqual(right_paper(empty(prime), one), (one.monic(), empty(prime), undone))
            self.assertEqual(right_paper(other * one, one), (one.monic(), empty(prime), undone))
            self.assertEqual(right_paper(one, one), (one.monic(), empty(prime), undone))
            by = self.source.operator(prime, 0)
            due = Operator.times(Function.number(prime, 1) // by.head)
            self.assertEqual(right_paper(one, by), (unit(prime), empty(prime), due))
            self.assertEqual(right_paper(by, one), (unit(prime), due, empty(prime)))

    def test_8_2_made_0(self):
        for prime in PRIMES:
            for _ in range(6):
                one, other, _ = self.pair(prime)
                both = prime - table_rank(rows_of(one) + rows_of(other))
                self.assertEqual(made_number(right_common(one, other)), both)

    def test_8_2_judged(self):
        for prime in PRIMES:
            for _ in range(5):
                one, other, _ = self.pair(prime)
                found, first, second = right_paper(one, other)
                _, left, right = left_multiple(one, other)
                by = self.source.operator(prime, 2)
                self.assertIs(is_right_paper(one, other, (found, first + by * left, second - by * right)), True)
                self.assertIs(is_right_paper(one, other, (found, first + by, second)), False)
                self.assertIs(is_right_paper(one, other, (found, second + by, first)), False)
                letter = Function.letter(prime)
                led = (found.led(letter), first.led(letter), second.led(letter))
                self.assertIs(is_right_paper(one, other, led), False)
                more = Operator.slopes(prime, 1)
                self.assertIs(is_right_paper(one, other, (more * found, more * first, more * second)), False)

    def test_8_2_judged_with_empty_ones(self):
        for paper, due in (((D3, unit(3), EMPTY3), True), ((D3, unit(3), LOGS), True), ((D3, EMPTY3, unit(3)), False)):
            self.assertIs(is_right_paper(D3, EMPTY3, paper), due)
            self.assertIs(is_right_paper(EMPTY3, D3, (paper[0], paper[2], paper[1])), due)


class MultiplesTest(Samples):
    def check_multiple(self, one, other, found, common):
        multiple = found[0]
        self.assertEqual(multiple.head, Function.number(one.prime, 1))
        self.assertEqual(multiple.degree, one.degree + other.degree - common.degree)

    def test_8_3_left(self):
        for prime in PRIMES:
            for _ in range(6):
                one, other, _ = self.pair(prime)
                found = left_multiple(one, other)
                self.check_multiple(one, other, found, right_common(one, other))
                self.assertEqual((found[1] * one, found[2] * other), (found[0], found[0]))
                again = left_multiple(other, one)
                self.assertEqual(again, (found[0], found[2], found[1]))

    def test_8_3_each_multiple(self):
        for prime in PRIMES:
            for _ in range(4):
                one, other, _ = self.pair(prime)
                multiple = left_multiple(one, other)[0]
                third = left_multiple(self.some(prime, 1, 1) * one, self.some(prime, 0, 1) * other)[0]
                self.assertIs(is_right_factor(third, multiple), True)

    def test_8_3_made_0(self):
        for prime in PRIMES:
            for _ in range(6):
                one, other, _ = self.pair(prime)
                multiple = left_multiple(one, other)[0]
                base = made_base(one) + made_base(other)
                self.assertFalse(any(multiple(function) for function in base))
                if right_common(one, other).degree == 0:
                    self.assertEqual(made_base(multiple), span_base(base) if base else ())

    def test_8_4_right(self):
        for prime in PRIMES:
            for _ in range(6):
                one, other, _ = self.pair(prime)
                one, other = turned_over(one), turned_over(other)
                found, common = right_multiple(one, other), left_common(one, other)
                self.check_multiple(one, other, found, common)
                self.assertEqual((one * found[1], other * found[2]), (found[0], found[0]))
                self.assertEqual(right_multiple(other, one), (found[0], found[2], found[1]))

    def test_8_4_left_common(self):
        for prime in PRIMES:
            for _ in range(6):
                common = self.some(prime, 1, 2)
                one, other = common * self.some(prime, 0, 2), common * self.some(prime, 0, 2)
                found = left_common(one, other)
                self.check_left_pair(one, other, found)
                self.assertIs(is_left_factor(one, found) and is_left_factor(other, found), True)
                self.assertIs(is_left_factor(found, common), True)
                self.assertEqual(left_common(one, empty(prime)).degree, one.degree)
                self.assertIs(is_left_factor(one, left_common(empty(prime), one)), True)
                self.assertEqual(left_common(one, self.source.operator(prime, 0)), unit(prime))

    def test_8_5_turning_over(self):
        for prime in PRIMES:
            one, other, common = self.pair(prime)
            found = left_common(turned_over(one), turned_over(other))
            due = turned_over(right_common(one, other))
            self.assertIn(found, (due, -due))
            multiple, due = right_multiple(turned_over(one), turned_over(other))[0], turned_over(left_multiple(one, other)[0])
            self.assertIn(multiple, (due, -due))
            self.assertIs(is_left_factor(turned_over(one), turned_over(common)), True)

    def test_edges(self):
        for prime in PRIMES:
            one, by = self.some(prime, 1, 3), self.source.operator(prime, 0)
            undone = Operator.times(Function.number(prime, 1) // one.head)
            self.assertEqual(left_multiple(one, one), (one.monic(), undone, undone))
            self.assertEqual(left_multiple(one, by)[:2], (one.monic(), undone))
            self.assertEqual(right_multiple(one, by)[1], Operator.times(Function.number(prime, 1) // one.head))
            self.assertEqual(left_multiple(by, by)[0], unit(prime))
            longer = self.some(prime, 1, 2) * one
            self.assertEqual(left_multiple(longer, one)[0], longer.monic())
            self.assertEqual(left_multiple(one, longer)[0], longer.monic())


class LongTest(Samples):
    def test_8_6_more_than_nine_functions(self):
        for prime in PRIMES:
            common = Operator(prime, (Function.letter(prime), Function.number(prime, 1)))
            low = Operator.slopes(prime, 8) * common
            one, other = Operator.slopes(prime, 3) * low, Operator.factor(Function.letter(prime)) * common
            self.assertEqual(one.degree, 12)
            found = right_common(one, other)
            self.assertEqual(found, common)
            paper = right_paper(one, other)
            self.assertIs(is_right_paper(one, other, paper), True)
            multiple = left_multiple(one, other)
            self.assertEqual((multiple[0].degree, multiple[1] * one), (13, multiple[0]))
            self.assertEqual(right_quotient(multiple[0], other), multiple[2])
            backwards = right_multiple(turned_over(one), turned_over(other))
            self.assertEqual((backwards[0].degree, turned_over(one) * backwards[1]), (13, backwards[0]))
            self.assertEqual(left_common(multiple[0], multiple[1]).degree, multiple[1].degree)


class SayingsTest(unittest.TestCase):
    def test_8_7_degrees(self):
        fall = Operator(3, (X3, ONE))
        self.assertEqual((right_common(fall * D3, D3), left_common(fall * D3, D3)), (D3, unit(3)))

    def test_8_7_sums(self):
        two = Function.number(3, 2)
        one = Operator.factor(two // X3) * D3
        other = Operator.factor((two * X3 + ONE) // (X3 * X3 + X3)) * D3
        self.assertEqual((made_base(one), made_base(other)), ((ONE,), (ONE,)))
        multiple = left_multiple(one, other)[0]
        self.assertFalse(multiple(X3 * X3))
        self.assertGreater(made_number(multiple), len(span_base(made_base(one) + made_base(other))))


if __name__ == "__main__":
    unittest.main()
