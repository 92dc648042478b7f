"""[14.1] to [14.6]: roots of norms, and parts."""

import unittest

from slopewords.errors import InvalidOperation, TooMany
from slopewords.func.functions import Function
from slopewords.func.slopes import turn_of
from slopewords.line.tables import idle_table, power_ranks, table_plus
from slopewords.oper.changes import tilted, turned_over
from slopewords.oper.common import left_multiple, right_common
from slopewords.oper.division import is_right_factor
from slopewords.oper.operators import Operator
from slopewords.turn.norms import norm, norm_at, norm_operator, norm_product
from slopewords.turn.roots import MAX_FUNCTION, MAX_NORM, is_root, parts, root_number, root_part, rootless, roots
from slopewords.turn.turns import turn
from tests.support import BAR, EMPTY3, KINDS, LOGS, NO, ONE, PRIMES, X2, X3, Source, check_error, check_refusals
from tests.support import function_kind, operator_kind, value_kind
from tests.test_norms import norm_kind


def zero(prime):
    return Function.number(prime, 0)


def one_of(prime):
    return Function.number(prime, 1)


def line(function):
    """The norm polynomial y less a function."""
    return (-function, one_of(function.prime))


def product_of(prime, norms):
    """The product of norm polynomials."""
    total = (one_of(prime),)
    for told in norms:
        total = norm_product(total, told)
    return total


def led(told, function):
    return tuple(function * entry for entry in told)


def counted(found):
    """The pairs of the members of a list and of how often they are there, in the order of roots."""
    rows = []
    for function in found:
        if not any(other == function for other, _ in rows):
            rows.append((function, sum(other == function for other in found)))
    return tuple(sorted(rows, key=lambda row: (row[0].bottom, row[0].top)))


class Samples(unittest.TestCase):
    def setUp(self):
        self.source = Source(141)

    def function(self, prime):
        return self.source.function(prime, 2, 2)

    def rootless_one(self, prime):
        """A norm polynomial of the degree 2 or 3 without roots: y y - t times a square, or y ** 3 - t at a pole."""
        letter, one, none = Function.letter(prime), one_of(prime), zero(prime)
        square = self.source.nonzero(prime, 1, 1) ** 2
        if self.source.number(0, 1):
            return (-letter * square, none, one)
        cube = self.source.nonzero(prime, 1, 0) ** 3
        return (-letter * cube, none, none, one)

    def operator(self, prime):
        """A product of short factors D - f."""
        operator = Operator.times(self.source.nonzero(prime, 1, 0))
        for _ in range(self.source.number(0, 3)):
            operator = operator * Operator.factor(self.source.function(prime, 1, 1))
        return operator


class KindsTest(Samples):
    def test_constants(self):
        self.assertEqual((MAX_NORM, MAX_FUNCTION), (4, 24))

    def test_refusals(self):
        told = norm_kind((X3, ONE))
        for call in (roots, rootless):
            check_refusals(self, call, [told])
        check_refusals(self, is_root, [told, value_kind(None)])
        check_refusals(self, root_number, [told, function_kind(X3)])
        check_refusals(self, root_part, [operator_kind(LOGS), function_kind(X3)])
        check_refusals(self, parts, [operator_kind(LOGS)])

    def test_unlike_primes_and_empty(self):
        for told in ((ONE, ONE), (ONE,) * 6):
            check_error(self, InvalidOperation, root_number, [told, X2], {})
        for operator in (LOGS, Operator.slopes(3, 5)):
            check_error(self, InvalidOperation, root_part, [operator, X2], {})
        check_error(self, InvalidOperation, root_part, [EMPTY3, X3], {})
        check_error(self, InvalidOperation, root_part, [EMPTY3, None], {})
        check_error(self, InvalidOperation, parts, [EMPTY3], {})

    def check_long_norm(self, told, limit):
        for call, more in ((roots, ()), (rootless, ()), (is_root, (None,)), (root_number, (zero(told[0].prime),))):
            self.assertEqual(check_error(self, TooMany, call, [told, *more], {}).limit, limit)

    def test_too_many_in_norms(self):
        for prime in PRIMES:
            one, letter = one_of(prime), Function.letter(prime)
            high = letter ** 12 * letter ** 12
            self.check_long_norm((one,) * 6, 4)
            self.check_long_norm((high * letter,) * 6, 4)
            for told in ((high * letter, one), (one, one // high // letter), (high * letter,), (one, one // high // letter, one)):
                self.check_long_norm(told, 24)
            for told in ((high, one // high), (one,) * 5):
                self.assertEqual(len(rootless(told)) - 1 + sum(many for _, many in roots(told)), len(told) - 1)
            check_error(self, function_kind(None).error, root_number, [(one,) * 6, None], {})

    def check_long_operator(self, operator, limit):
        for call, more in ((parts, ()), (root_part, (zero(operator.prime),))):
            self.assertEqual(check_error(self, TooMany, call, [operator, *more], {}).limit, limit)

    def test_too_many_in_operators(self):
        for prime in PRIMES:
            one, letter = one_of(prime), Function.letter(prime)
            high = letter ** 12 * letter ** 12
            self.check_long_operator(Operator.slopes(prime, 5), 4)
            self.check_long_operator(Operator.slopes(prime, 5).led(high * letter), 4)
            self.check_long_operator(Operator(prime, (high * letter,)), 24)
            self.check_long_operator(Operator(prime, (one, one // high // letter)), 24)
            # Both bottoms stand in the norm: its bottom has powers of t and of t + 1.
            other = (letter + one) ** 12 * (letter + one) ** 12
            long_one = Operator(prime, (one // other, letter // high))
            self.assertGreater(max(len(entry.bottom) for entry in norm(long_one)), 25)
            self.check_long_operator(long_one, 24)
            self.assertEqual(parts(Operator(prime, (high,))), ())
            # A long function can have a short norm, and is refused all the same.
            log = Operator.factor((letter + one) ** 12 * letter // (high * letter + one))
            short = Operator.factor((high * letter + one).slope() // (high * letter + one))
            for operator in (log, short):
                if max(len(entry.bottom) for entry in operator) > 25:
                    self.check_long_operator(operator, 24)
            check_error(self, function_kind(None).error, root_part, [Operator.slopes(prime, 5), None], {})

    def test_judged_values(self):
        for value in KINDS:
            due = isinstance(value, Function) and value == X3
            self.assertIs(is_root((-X3, ONE), value), due)
        self.assertIs(is_root((NO, ONE), X2 - X2), False)
        self.assertIs(is_root((NO, ONE), 0), False)


class RootsTest(Samples):
    def test_14_1_products(self):
        """A product of y - c and of a polynomial without roots has just these roots."""
        for prime in PRIMES:
            for _ in range(12):
                rest = self.rootless_one(prime) if self.source.number(0, 1) else (one_of(prime),)
                found = [self.source.function(prime, 1, 1) for _ in range(self.source.number(0, 5 - len(rest)))]
                if found and self.source.number(0, 1):
                    found[-1] = found[0]
                told = product_of(prime, [rest, *[line(function) for function in found]])
                told = led(told, self.source.nonzero(prime, 1, 1))
                self.assertEqual(roots(told), counted(found))
                self.assertEqual(rootless(told), rest)
                for function, many in counted(found):
                    self.assertEqual(root_number(told, function), many)
                    self.assertIs(is_root(told, function), True)
                other = self.function(prime)
                self.assertIs(is_root(told, other), not norm_at(told, other))
                if not is_root(told, other):
                    self.assertEqual(root_number(told, other), 0)

    def test_14_1_all_numbers(self):
        """Roots stand up to four times, so also as often as the primes 2 and 3."""
        for prime in PRIMES:
            for many in range(1, 5):
                for function in (zero(prime), one_of(prime), self.source.function(prime, 2, 2)):
                    told = product_of(prime, [line(function)] * many)
                    self.assertEqual(roots(told), ((function, many),))
                    self.assertEqual(rootless(told), (one_of(prime),))
                    if many < 4:
                        letter = Function.letter(prime)
                        more = norm_product(told, line(function + letter ** 2))
                        self.assertEqual(dict((str(root), number) for root, number in roots(more)),
                                         {str(function): many, str(function + letter ** 2): 1})

    def test_14_1_order(self):
        letter, one = Function.letter(5), one_of(5)
        found = [letter, one // letter, one, letter + one, one // (letter + one), zero(5), (letter + one) // letter]
        for low in range(len(found)):
            for high in range(low + 1, len(found)):
                told = product_of(5, [line(found[high]), line(found[low])])
                self.assertEqual(roots(told), counted([found[low], found[high]]))

    def test_14_2_rests_modulo_the_prime(self):
        """y ** p - c has a root just if c is a power with the exponent p; all roots are one."""
        for prime in (2, 3):
            for _ in range(6):
                function = self.function(prime)
                told = (-function ** prime, *[zero(prime)] * (prime - 1), one_of(prime))
                self.assertEqual(roots(told), ((function, prime),))
                letter = Function.letter(prime)
                told = (-letter * function ** prime, *[zero(prime)] * (prime - 1), one_of(prime))
                self.assertEqual(roots(told), () if function else ((zero(prime), prime),))

    def test_14_2_lows_are_no_roots(self):
        """Numbers that fit up to the longest ones, but are the start of a series that does not end."""
        for prime in PRIMES:
            letter, one = Function.letter(prime), one_of(prime)
            # y (1 + t) - 1 has the root 1 / (1 + t); y y + (1 + t) y + t c has roots that need not be rational.
            self.assertEqual(roots((-one, one + letter)), ((one // (one + letter), 1),))
            told = (letter, one + letter ** 2, one)
            for root, _ in roots(told):
                self.assertFalse(norm_at(told, root))
            self.assertEqual(roots((letter ** 3 + letter, one, one)), ())

    def test_14_2_long_functions(self):
        for prime in PRIMES:
            one, other = self.source.nonzero(prime, 12, 12), self.source.nonzero(prime, 12, 12)
            self.assertEqual(roots(product_of(prime, [line(one), line(other)])), counted([one, other]))
            four = [self.source.nonzero(prime, 6, 6) for _ in range(3)]
            four.append(four[1])
            self.assertEqual(roots(product_of(prime, [line(function) for function in four])), counted(four))
            self.assertEqual(roots(product_of(prime, [line(zero(prime))] * 4)), ((zero(prime), 4),))

    def test_degree_0(self):
        for prime in PRIMES:
            told = (self.source.nonzero(prime),)
            self.assertEqual((roots(told), rootless(told)), ((), (one_of(prime),)))
            self.assertEqual(root_number(told, zero(prime)), 0)
            self.assertIs(is_root(told, zero(prime)), False)

    def test_14_3_changes(self):
        for prime in PRIMES:
            for _ in range(4):
                operator, function = self.operator(prime), self.source.function(prime, 1, 0)
                found = roots(norm(operator))
                due = [root - turn_of(function) for root, many in found for _ in range(many)]
                self.assertEqual(roots(norm(tilted(operator, function))), counted(due))
                due = [-root for root, many in found for _ in range(many)]
                self.assertEqual(roots(norm(turned_over(operator))), counted(due))


class PartsTest(Samples):
    def check_parts(self, operator):
        prime = operator.prime
        told = norm(operator)
        found = parts(operator)
        rows = roots(told)
        self.assertEqual([root for root, _ in found if root is not None], [root for root, _ in rows])
        self.assertTrue(all(root is not None for root, _ in found[:-1]))
        for (root, many), (_, part) in zip(rows, found):
            due = product_of(prime, [line(root)] * many)
            self.check_part(operator, part, due)
            self.assertEqual(root_part(operator, root), part)
            self.assertEqual(part, right_common(operator, norm_operator(due)))
        rest = rootless(told)
        self.assertEqual(len(found), len(rows) + (len(rest) > 1))
        if len(rest) > 1:
            self.assertIsNone(found[-1][0])
            self.check_part(operator, found[-1][1], rest)
        total = Operator.slopes(prime, 0)
        for _, part in found:
            total = left_multiple(total, part)[0]
        self.assertEqual(total, operator.monic())
        self.assertEqual(sum(part.degree for _, part in found), operator.degree)

    def check_part(self, operator, part, due):
        self.assertEqual(part.head, one_of(operator.prime))
        self.assertEqual(part.degree, len(due) - 1)
        self.assertIs(is_right_factor(operator, part), True)
        self.assertEqual(norm(part), due)

    def test_14_4_parts(self):
        for prime in PRIMES:
            for _ in range(5):
                self.check_parts(self.operator(prime))

    def test_14_4_rests(self):
        """D D - x modulo p from 3 on has a norm without roots, and products with it have such a rest."""
        for prime in (3, 5, 7):
            letter = Function.letter(prime)
            airy = Operator(prime, (-letter, zero(prime), one_of(prime)))
            self.assertEqual(roots(norm(airy)), ())
            self.assertEqual(parts(airy), ((None, airy),))
            for other in (Operator.slopes(prime, 1), Operator.factor(letter), Operator.slopes(prime, 2)):
                self.check_parts(other * airy)
                self.check_parts(airy * other)
        for prime in PRIMES:
            letter = Function.letter(prime)
            cubic = Operator(prime, (-letter, zero(prime), zero(prime), one_of(prime)))
            self.check_parts(cubic)
            self.check_parts(cubic * Operator.factor(letter))

    def test_14_4_functions_that_are_no_roots(self):
        for prime in PRIMES:
            for _ in range(4):
                operator, function = self.operator(prime), self.function(prime)
                if not is_root(norm(operator), function):
                    self.assertEqual(root_part(operator, function), Operator.slopes(prime, 0))
            operator = self.source.operator(prime, 0)
            self.assertEqual((parts(operator), root_part(operator, zero(prime))), ((), Operator.slopes(prime, 0)))

    def test_14_4_single_roots(self):
        for prime in PRIMES:
            operator = Operator.factor(self.source.function(prime, 1, 1))
            for root in (operator * operator, operator * operator * operator):
                found = parts(root)
                self.assertEqual((len(found), found[0][1]), (1, root.monic()))

    def test_14_5_turns(self):
        for prime in PRIMES:
            for _ in range(3):
                for root, part in parts(self.operator(prime)):
                    if root is not None:
                        idle = idle_table(prime, part.degree)
                        shift = tuple(tuple(root.spread() * entry for entry in row) for row in idle)
                        self.assertEqual(power_ranks(table_plus(turn(part), shift, times=-1))[-1], 0)


class SayingsTest(unittest.TestCase):
    def test_14_6(self):
        pair = Operator(3, (NO, -X3 - ONE // X3, ONE))
        found = [part for _, part in parts(pair)]
        self.assertEqual(found, [Operator.slopes(3, 1), Operator.factor(X3)])
        product = Operator(3, (-ONE, -X3, ONE))
        self.assertEqual((found[0] * found[1], product == pair), (product, False))
        self.assertEqual(roots(norm(BAR)), ((Function(2, (1,), (0, 1)), 2),))
        told = (ONE, NO, X3, ONE)
        self.assertEqual([root for root, _ in roots((-X3 * X3, NO, ONE))], [X3, -X3])
        self.assertTrue(all(not norm_at(told, root) for root, _ in roots(told)))


if __name__ == "__main__":
    unittest.main()
