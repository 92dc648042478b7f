"""[10.1] to [10.8]: rows of operators, spans, and what operators make 0."""

import unittest

from slopewords.errors import InvalidFunction, InvalidOperation
from slopewords.func.functions import Function, are_independent
from slopewords.line.tables import determinant, table_kernel, table_plus, table_product, table_rank
from slopewords.made.rows import MOST_SPANNED, image_base, in_span, made_base, made_number, operator_of_rows
from slopewords.made.rows import row_determinant, rows_of, span_base, vanisher
from slopewords.oper.changes import turned_over
from slopewords.oper.division import is_right_factor
from slopewords.oper.operators import Operator
from slopewords.turn.norms import norm
from slopewords.turn.turns import turn_ranks
from tests.support import BAR, D3, EMPTY3, KINDS, LOGS, NO, ONE, PRIMES, X2, X3, Kind, Source, check_error
from tests.support import check_refusals, operator_kind, table_kind, value_kind


def spanning_kind(good):
    """A tuple of from 1 to 28 functions of one prime; those of unlike primes are told elsewhere."""
    bad = [value for value in KINDS if value not in ((X3,), (X2, X3))]
    return Kind(good, InvalidFunction, bad + [(ONE,) * 29, [ONE], (ONE, None), (ONE, 1), (None, ONE), (D3,)])


def zero(prime):
    return Function.number(prime, 0)


def one_of(prime):
    return Function.number(prime, 1)


def power(prime, many):
    return Function.letter(prime) ** many


class Samples(unittest.TestCase):
    def setUp(self):
        self.source = Source(101)

    def some(self, prime, least=-1, most=4):
        return self.source.operator(prime, self.source.number(least, most))

    def function(self, prime):
        return self.source.function(prime, 2, 1)

    def of_t(self, prime):
        """A function of t, not 0, as a function of x."""
        return self.source.nonzero(prime, 1, 1).spread()

    def functions(self, prime, many):
        return tuple(self.function(prime) for _ in range(many))

    def mixed(self, prime, functions):
        """A sum of multiples of functions by functions of t."""
        total = zero(prime)
        for function in functions:
            total = total + self.of_t(prime) * function
        return total

    def singular(self, prime):
        """An operator that makes some function 0."""
        return self.some(prime, 0, 2) * self.log_line(prime)

    def log_line(self, prime):
        """An operator D - u' / u, which makes u 0."""
        function = self.source.nonzero(prime, 2, 1)
        return Operator.factor(function.slope() // function)


class KindsTest(Samples):
    def test_constant(self):
        self.assertEqual(MOST_SPANNED, 28)

    def test_refusals(self):
        for call in (rows_of, made_base, made_number, image_base, row_determinant):
            check_refusals(self, call, [operator_kind(LOGS)])
        check_refusals(self, operator_of_rows, [table_kind(rows_of(LOGS))])
        for call in (span_base, vanisher):
            check_refusals(self, call, [spanning_kind((X3, ONE))])
        check_refusals(self, in_span, [spanning_kind((X3, ONE)), value_kind(None)])

    def test_shapes_and_unlike_primes(self):
        for rows, columns in ((1, 1), (3, 2), (2, 3), (2, 2), (4, 4), (4, 3), (3, 4), (28, 28)):
            check_error(self, InvalidOperation, operator_of_rows, [((X3,) * columns,) * rows], {})
        check_error(self, InvalidOperation, operator_of_rows, [((X2,) * 3,) * 3], {})
        for functions in ((X2, X3), (X3, X2), (X3, X3, X2)):
            for call in (span_base, vanisher):
                check_error(self, InvalidOperation, call, [functions], {})
            check_error(self, InvalidOperation, in_span, [functions, None], {})

    def test_judged_values(self):
        for value in KINDS:
            due = value in (X3, ONE) if isinstance(value, Function) else False
            self.assertIs(in_span((X3, ONE), value), due)
        self.assertIs(in_span((NO,), X2), False)
        self.assertIs(in_span((NO,), NO), True)


class RowsTest(Samples):
    def test_10_1_rows(self):
        for prime in PRIMES:
            for _ in range(8):
                operator = self.some(prime, -1, 8)
                rows = rows_of(operator)
                self.assertEqual((len(rows), {len(row) for row in rows}), (prime, {prime}))
                for column in range(prime):
                    parts = operator(power(prime, column)).parts()
                    self.assertEqual(tuple(row[column] for row in rows), parts)

    def test_10_1_made(self):
        for prime in PRIMES:
            for _ in range(5):
                operator, function = self.some(prime), self.function(prime)
                column = tuple((part,) for part in function.parts())
                made = table_product(rows_of(operator), column)
                self.assertEqual(tuple(row[0] for row in made), operator(function).parts())

    def test_10_1_sums_and_products(self):
        for prime in PRIMES:
            for _ in range(5):
                one, other = self.some(prime, -1, 3), self.some(prime, -1, 3)
                self.assertEqual(rows_of(one + other), table_plus(rows_of(one), rows_of(other)))
                self.assertEqual(rows_of(one * other), table_product(rows_of(one), rows_of(other)))

    def test_10_1_entries_from_the_prime_on(self):
        for prime in PRIMES:
            operator = self.some(prime, 0, 1)
            more = operator + self.some(prime, 0, 2) * Operator.slopes(prime, prime)
            self.assertEqual(rows_of(more), rows_of(operator))

    def test_10_2_operator_of_rows(self):
        for prime in PRIMES:
            for _ in range(4):
                table = tuple(tuple(self.function(prime) for _ in range(prime)) for _ in range(prime))
                operator = operator_of_rows(table)
                self.assertLess(operator.degree, prime)
                self.assertEqual(rows_of(operator), table)
                small = self.some(prime, -1, prime - 1)
                self.assertEqual(operator_of_rows(rows_of(small)), small)
            self.assertEqual(operator_of_rows(((zero(prime),) * prime,) * prime), Operator(prime, ()))

    def test_long_operators(self):
        for prime in PRIMES:
            long_one = self.source.operator(prime, 8) * self.source.operator(prime, 3)
            self.assertEqual(rows_of(long_one)[0][0], long_one(one_of(prime)).parts()[0])
            self.assertEqual(made_number(long_one * self.log_line(prime)) > 0, True)


class SpansTest(Samples):
    def test_10_3_base(self):
        for prime in PRIMES:
            for many in (1, 2, 3, 5):
                functions = self.functions(prime, many)
                base = span_base(functions)
                self.check_base(base)
                for function in functions:
                    self.assertIs(in_span(base, function) if base else not function, True)
                for function in base:
                    self.assertIs(in_span(functions, function), True)
                self.assertIs(in_span(functions, self.mixed(prime, functions)), True)

    def check_base(self, base):
        """The parts of a base are an echelon."""
        rows = [function.parts() for function in base]
        leads = [[place for place, part in enumerate(row) if part][0] for row in rows]
        self.assertEqual(leads, sorted(set(leads)))
        for number, lead in enumerate(leads):
            column = [row[lead] for row in rows]
            self.assertEqual(column.pop(number), one_of(base[0].prime))
            self.assertFalse(any(column))

    def test_10_3_equal_spans(self):
        for prime in PRIMES:
            for _ in range(4):
                functions = self.functions(prime, 2)
                others = tuple(self.mixed(prime, functions) for _ in range(3)) + functions[::-1]
                self.assertEqual(span_base(others), span_base(functions))

    def test_10_3_outside(self):
        for prime in PRIMES:
            for _ in range(6):
                functions = self.functions(prime, self.source.number(1, prime - 1))
                value = self.function(prime)
                due = len(span_base((*functions, value))) == len(span_base(functions))
                self.assertIs(in_span(functions, value), due)
                self.assertIs(in_span(functions, Function.letter(3 if prime == 2 else 2)), False)

    def test_10_3_edges(self):
        for prime in PRIMES:
            none = zero(prime)
            self.assertEqual(span_base((none,) * 28), ())
            self.assertEqual(vanisher((none,) * 28), Operator.slopes(prime, 0))
            self.assertIs(in_span((none,) * 28, none), True)
            self.assertIs(in_span((none,), one_of(prime)), False)
            functions = self.functions(prime, 28)
            powers = tuple(power(prime, place) for place in range(prime))
            self.assertEqual(span_base(functions), powers)
            self.assertEqual(vanisher(functions), Operator.slopes(prime, prime))
            self.assertEqual(vanisher(powers), Operator.slopes(prime, prime))
            self.assertEqual(span_base((self.source.nonzero(prime).spread(),)), (one_of(prime),))


class MadeTest(Samples):
    def test_10_4_made_0(self):
        for prime in PRIMES:
            for _ in range(6):
                operator = self.singular(prime)
                base = made_base(operator)
                self.assertEqual((len(base), made_number(operator)), (made_number(operator), len(base)))
                self.assertEqual(len(base), prime - table_rank(rows_of(operator)))
                self.assertLessEqual(len(base), min(max(operator.degree, 0), prime))
                self.assertFalse(any(operator(function) for function in base))
                self.assertEqual(len(base), len(table_kernel(rows_of(operator))))
                if base:
                    self.assertEqual(span_base(base), base)
                    self.assertFalse(operator(self.mixed(prime, base)))

    def test_10_4_numbers_by_turns(self):
        for prime in PRIMES:
            for _ in range(6):
                operator = self.some(prime, 1, 2) * self.log_line(prime)
                self.assertEqual(made_number(operator), operator.degree - turn_ranks(operator)[0])

    def test_10_4_images(self):
        for prime in PRIMES:
            for _ in range(5):
                operator = self.singular(prime)
                base = image_base(operator)
                self.assertEqual(len(base), prime - made_number(operator))
                made = tuple(operator(power(prime, place)) for place in range(prime))
                self.assertEqual(base, span_base(made))
                if base:
                    self.assertIs(in_span(base, operator(self.function(prime))), True)

    def test_10_4_edges(self):
        for prime in PRIMES:
            powers = tuple(power(prime, place) for place in range(prime))
            for empty in (Operator(prime, ()), Operator.slopes(prime, prime)):
                self.assertEqual((made_base(empty), image_base(empty), made_number(empty)), (powers, (), prime))
                self.assertEqual(row_determinant(empty), zero(prime))
            for many in range(prime):
                operator = Operator.slopes(prime, many)
                self.assertEqual(made_base(operator), powers[:many])
                self.assertEqual(image_base(operator), powers[:prime - many])
            single = self.source.operator(prime, 0)
            self.assertEqual((made_base(single), image_base(single)), ((), powers))

    def test_10_5_products_and_turning_over(self):
        for prime in PRIMES:
            for _ in range(5):
                one, other = self.singular(prime), self.singular(prime)
                self.assertEqual(made_number(one), made_number(turned_over(one)))
                product = one * other
                base = made_base(other)
                self.assertFalse(any(product(function) for function in base))
                self.assertLessEqual(len(base), made_number(product))
                self.assertLessEqual(made_number(product), made_number(one) + made_number(other))

    def test_10_6_determinants(self):
        for prime in PRIMES:
            for _ in range(5):
                operator = self.some(prime, 0, 3)
                found = row_determinant(operator)
                self.assertEqual(found, determinant(rows_of(operator)))
                self.assertEqual(found, norm(operator)[0])


class VanishersTest(Samples):
    def test_10_7_vanishers(self):
        for prime in PRIMES:
            for many in range(1, prime + 1):
                functions = self.functions(prime, many)
                operator = vanisher(functions)
                self.assertEqual(operator.degree, len(span_base(functions)))
                self.assertEqual(operator.head, one_of(prime))
                self.assertFalse(any(operator(function) for function in functions))
                self.assertEqual(made_base(operator), span_base(functions) if operator.degree else ())
                self.assertIs(is_right_factor(Operator.slopes(prime, prime), operator), True)

    def test_10_7_dependent_functions(self):
        for prime in PRIMES:
            function = self.source.nonzero(prime)
            others = tuple(function * self.of_t(prime) for _ in range(3))
            line = Operator.factor(function.slope() // function)
            self.assertEqual(vanisher((zero(prime), *others, function)), line)
            self.assertFalse(are_independent(others[:2]))

    def test_10_7_right_factors(self):
        for prime in PRIMES:
            for _ in range(4):
                functions = self.functions(prime, min(2, prime - 1))
                operator = vanisher(functions)
                other = self.some(prime, 0, 2) * operator
                self.assertFalse(any(other(function) for function in functions))
                self.assertIs(is_right_factor(other, vanisher(functions[:1])), True)
                self.assertIs(is_right_factor(self.some(prime, 1, 1) * other, operator), True)


class SayingsTest(unittest.TestCase):
    def test_10_8(self):
        self.assertEqual((LOGS.degree, made_number(LOGS), BAR.degree, made_number(BAR)), (2, 1, 2, 0))
        line = Operator(3, (ONE // X3, ONE))
        self.assertEqual((line * D3, made_number(line), made_number(D3)), (LOGS, 1, 1))
        other = D3 * D3 + D3
        self.assertEqual((made_base(other), made_base(LOGS)), ((ONE,), (ONE,)))
        self.assertEqual((other.degree, other.head), (LOGS.degree, LOGS.head))
        self.assertNotEqual(other, LOGS)
        self.assertEqual(made_number(EMPTY3), 3)


if __name__ == "__main__":
    unittest.main()
