"""[19.1] to [19.3]: the ring of an operator, and fully reducible operators."""

import unittest

from slopewords.errors import InvalidOperation, InvalidOperator, TooMany
from slopewords.first.chains import chain_length, is_irreducible_operator
from slopewords.func.functions import Function
from slopewords.kin.leading import does_lead, leading_base, pieces
from slopewords.kin.rings import is_reducible_paper, reducible_paper, ring_base, ring_number, ring_product, ring_undone
from slopewords.oper.changes import tilted
from slopewords.oper.common import left_multiple
from slopewords.oper.division import right_division
from slopewords.oper.operators import Operator
from tests.support import BAR, D2, D3, EMPTY3, KINDS, LOGS, NO, ONE, PRIMES, X2, X3, Source, alike_to, barred
from tests.support import check_error, check_refusals, drawn_firsts, longest, operator_kind, product_of
from tests.support import rootless_operator, turning_kind, value_kind

EULER = Operator(3, (NO, X3))
UNIT3 = Operator.times(ONE)
ONES = (ring_base, ring_number, reducible_paper)


class Samples(unittest.TestCase):
    def setUp(self):
        self.source = Source(191)

    def irreducible(self, prime):
        """Irreducible operators of the degrees 1 to 3."""
        found = [Operator.factor(self.source.function(prime, 2, 1)), rootless_operator(self.source, prime, 2)]
        return found + [barred(prime)] if prime < 5 else found

    def operators(self, prime):
        """Irreducible ones, products, and least common multiples."""
        found = self.irreducible(prime)
        for degree in (2, 3):
            for alike in (False, True):
                functions = drawn_firsts(self.source, prime, degree, alike)
                found += [product_of(self.source, prime, functions), self.multiple(prime, functions)]
            if degree <= prime:
                found.append(Operator.slopes(prime, degree))
        found.append(self.multiple_of([Operator.factor(Function.letter(prime)), rootless_operator(self.source, prime, 2)]))
        if prime == 2:
            found.append(self.multiple_of([BAR, D2]))
        return [operator for operator in found if longest([operator]) <= 24]

    def short_operators(self, prime):
        return [operator for operator in self.operators(prime) if longest([operator]) <= 20 // prime]

    def multiple(self, prime, functions):
        return self.multiple_of([Operator.factor(function) for function in functions])

    def multiple_of(self, operators):
        multiple = operators[0]
        for operator in operators[1:]:
            multiple = left_multiple(multiple, operator)[0]
        return multiple.led(Function.letter(multiple.prime))


class KindsTest(Samples):
    def test_refusals(self):
        operator, member = operator_kind(LOGS), operator_kind(EULER)
        for call in ONES:
            check_refusals(self, call, [operator])
        check_refusals(self, ring_product, [operator, member, member])
        check_refusals(self, ring_undone, [operator, member])
        check_refusals(self, is_reducible_paper, [turning_kind(LOGS), value_kind(None)])

    def test_sequence_of_errors(self):
        for low in (EMPTY3, UNIT3):
            for call in ONES:
                check_error(self, InvalidOperation, call, [low], {})
            check_error(self, InvalidOperation, is_reducible_paper, [low, None], {})
            check_error(self, InvalidOperator, ring_product, [low, EULER, None], {})
            check_error(self, InvalidOperator, ring_undone, [low, 1], {})
            check_error(self, InvalidOperation, ring_undone, [low, EMPTY3], {})
        for outside in (D3, Operator.times(X3), LOGS, D2):
            check_error(self, InvalidOperation, ring_product, [LOGS, outside, EULER], {})
            check_error(self, InvalidOperation, ring_product, [LOGS, EULER, outside], {})
            check_error(self, InvalidOperation, ring_undone, [LOGS, outside], {})
        for call, more in ((ring_product, [X3, None]), (ring_undone, [X3])):
            check_error(self, InvalidOperator, call, [D3 ** 4, *more], {})

    def test_sizes(self):
        for prime in PRIMES:
            one, letter = Function.number(prime, 1), Function.letter(prime)
            first = Operator.slopes(prime, 1)
            for right in (Operator(prime, (letter ** 20 * letter ** 4, one)), Operator.slopes(prime, 3),
                          Operator(prime, (one // (letter ** 20 * letter ** 4), one))):
                for call in ONES:
                    call(right)
                is_reducible_paper(right, None)
            for wrong, limit in ((Operator(prime, (letter ** 20 * letter ** 5, one)), 24), (Operator.slopes(prime, 4), 3),
                                 (Operator(prime, (one, one // (letter ** 20 * letter ** 5))), 24)):
                for call, more in ((ring_base, []), (ring_number, []), (reducible_paper, []), (is_reducible_paper, [None]),
                                   (ring_product, [first, wrong]), (ring_undone, [wrong])):
                    self.assertEqual(check_error(self, TooMany, call, [wrong, *more], {}).limit, limit)
            check_error(self, InvalidOperation, ring_product, [Operator.slopes(prime, 4), Operator.slopes(5 if prime < 5
                                                                                                      else 2, 1), first], {})

    def test_judged_values(self):
        line = Operator.factor(ONE // X3)
        flat = D3 * D3
        near = KINDS + [
            ("multiple",), ("multiple", ()), ("multiple", D3), ("multiple", (flat,)), ("multiple", (D3, D3)),
            ("multiple", (D3, line.led(X3))), ("multiple", [D3, line]), ["multiple", (D3, line)], ("Multiple", (D3, line)),
            ("multiple", (D3, line), 1), ("multiple", D3, line), ("multiple", (D3, UNIT3, line)), ("multiple", (D3, None)),
            ("multiple", (D3, Operator.factor(X3))), ("multiple", (D2, D2)), ("multiple", (D3,)), ("multiple", (LOGS,)),
            ("piece",), ("piece", (NO, ONE)), ("piece", (NO, ONE), 1), ("piece", (NO, ONE), 3), ("piece", (NO, ONE), True),
            ("piece", (NO, ONE, ONE), 2), ("piece", [NO, ONE], 2), ["piece", (NO, ONE), 2], ("piece", (X3, ONE), 2),
            ("piece", None, 2), ("piece", (NO, ONE), None), ("piece", (NO, ONE), 2, 2)]
        for value in near:
            self.assertIs(is_reducible_paper(flat, value), False)
            self.assertIs(is_reducible_paper(LOGS, value), False)
            self.assertIs(is_reducible_paper(D3, value), value == ("multiple", (D3,)))
        for value in (("multiple", (D3, line)), ("multiple", (line, D3)),
                      ("multiple", (line, Operator.factor(ONE // (X3 + ONE))))):
            self.assertIs(is_reducible_paper(flat, value), True)
            self.assertIs(is_reducible_paper(LOGS, value), False)
        self.assertIs(is_reducible_paper(LOGS, ("piece", (NO, ONE), 2)), True)
        self.assertIs(is_reducible_paper(flat, ("piece", (NO, ONE), 2)), False)


class RingTest(Samples):
    def members(self, operator):
        """Drawn members of a ring."""
        prime = operator.prime
        found = list(ring_base(operator))
        total = Operator(prime, ())
        for member in found:
            by = Function(prime, self.source.poly(prime, self.source.number(0, 1)), (1,)).spread()
            total = total + member.led(by)
        return [*found, total, Operator(prime, ()), Operator.slopes(prime, 0)]

    def test_19_1_rings(self):
        for prime in PRIMES:
            for operator in self.short_operators(prime):
                self.assertEqual(ring_base(operator), leading_base(operator, operator))
                members = self.members(operator)
                unit = Operator.slopes(prime, 0)
                for one in members[:6]:
                    self.assertIs(does_lead(operator, operator, one), True)
                    self.assertEqual(ring_product(operator, one, unit), one)
                    self.assertEqual(ring_product(operator, unit, one), one)
                    other, third = self.source.choice(members), self.source.choice(members)
                    product = ring_product(operator, one, other)
                    self.assertEqual(product, right_division(one * other, operator)[1])
                    self.assertIs(does_lead(operator, operator, product), True)
                    self.assertEqual(ring_product(operator, product, third),
                                     ring_product(operator, one, ring_product(operator, other, third)))
                    self.assertEqual(ring_product(operator, one, other + third),
                                     product + ring_product(operator, one, third))

    def test_19_2_numbers(self):
        for prime in PRIMES:
            for operator in self.operators(prime):
                found = pieces(operator)
                total = sum(min(one[1], other[1]) * one[2] * other[2] * (len(one[0]) - 1)
                            for one in found for other in found if one[0] == other[0])
                self.assertEqual(ring_number(operator), total)
                self.assertEqual(len(ring_base(operator)), total)

    def test_19_2_undone(self):
        for prime in PRIMES:
            for operator in self.short_operators(prime):
                unit = Operator.slopes(prime, 0)
                for one in self.members(operator):
                    undone = ring_undone(operator, one)
                    if undone is None:
                        self.assertFalse(one and is_irreducible_operator(operator))
                        self.assertTrue(self.is_divisor_of_nothing(operator, one))
                    else:
                        self.assertIs(does_lead(operator, operator, undone), True)
                        self.assertEqual(ring_product(operator, one, undone), unit)
                        self.assertEqual(ring_product(operator, undone, one), unit)

    def is_divisor_of_nothing(self, operator, one):
        """Whether the products with the base are dependent, so that no product can be 1."""
        products = [ring_product(operator, member, one) for member in ring_base(operator)]
        return Operator.slopes(operator.prime, 0) not in products

    def test_irreducible_rings(self):
        for prime in PRIMES:
            for operator in self.irreducible(prime):
                for one in ring_base(operator):
                    self.assertIsNotNone(ring_undone(operator, one))
                self.assertIsNone(ring_undone(operator, Operator(prime, ())))
            self.assertEqual(ring_number(rootless_operator(self.source, prime, 3)), 3)
        self.assertEqual([ring_number(operator) for operator in (BAR, barred(3), D3 ** 3, D3 * D3, D3)], [4, 9, 9, 4, 1])

    def test_undone_in_ring_of_logs(self):
        by = EULER + UNIT3
        self.assertEqual(ring_undone(LOGS, by), UNIT3 - EULER)
        self.assertIsNone(ring_undone(LOGS, EULER))
        self.assertIsNone(ring_undone(LOGS, EMPTY3))


class ReducibleTest(Samples):
    def test_19_3_papers(self):
        seen = set()
        for prime in PRIMES:
            for operator in self.operators(prime):
                paper = reducible_paper(operator)
                seen.add(paper[0])
                self.assertIs(is_reducible_paper(operator, paper), True)
                powers = [power for _, power, _ in pieces(operator)]
                self.assertEqual(paper[0], "multiple" if max(powers) == 1 else "piece")
                if paper[0] == "multiple":
                    self.check_multiple(operator, paper[1])
                for entries, power, _ in pieces(operator):
                    self.assertIs(is_reducible_paper(operator, ("piece", entries, power)), power > 1)
        self.assertEqual(seen, {"multiple", "piece"})

    def check_multiple(self, operator, found):
        self.assertEqual(sum(part.degree for part in found), operator.degree)
        self.assertEqual(len(found), chain_length(operator))
        multiple = found[0]
        for part in found[1:]:
            multiple = left_multiple(multiple, part)[0]
        self.assertEqual(multiple, operator.monic())
        for part in found:
            self.assertEqual(part.head, Function.number(operator.prime, 1))
            if longest([part]) <= 24:
                self.assertIs(is_irreducible_operator(part), True)
        self.assertIs(is_reducible_paper(operator, ("multiple", found[::-1])), True)
        if len(found) > 1:
            joined = (left_multiple(found[0], found[1])[0], *found[2:])
            for wrong in (found[:-1], (*found, found[0]), (found[0], *found[:-1]), joined, list(found)):
                self.assertIs(is_reducible_paper(operator, ("multiple", wrong)), False)

    def test_found_multiples(self):
        """Least common multiples of alike and of unlike irreducible operators."""
        for prime in PRIMES:
            letter = Function.letter(prime)
            sets = [[Operator.factor(letter), rootless_operator(self.source, prime, 2)],
                    [Operator.slopes(prime, 1), Operator.factor(letter), Operator.factor(letter * letter)]]
            if prime < 5:
                sets.append([barred(prime)])
            if prime > 2:
                sets.append([Operator.slopes(prime, 1), Operator.factor(Function.number(prime, 1) // letter)])
            if prime == 2:
                sets.append([BAR, Operator.factor(X2)])
            for members in sets:
                operator = self.multiple_of(members)
                paper = reducible_paper(operator)
                self.assertEqual(paper[0], "multiple")
                self.check_multiple(operator, paper[1])
                if all(member.head == Function.number(prime, 1) for member in members):
                    self.assertIs(is_reducible_paper(operator, ("multiple", tuple(members))), True)

    def test_parts_of_others(self):
        """Operators of any degrees are taken."""
        for prime in (3, 5, 7):
            one, letter = Function.number(prime, 1), Function.letter(prime)
            made = one + letter * (letter ** 20 * letter ** 15).spread()
            factor = Operator.factor(made.slope() // made)
            self.assertGreater(longest([factor]), 60)
            flat = Operator.slopes(prime, 2)
            self.assertIs(is_reducible_paper(flat, ("multiple", (Operator.slopes(prime, 1), factor))), True)
            self.assertIs(is_reducible_paper(flat, ("multiple", (factor, factor))), False)

    def test_products_that_are_not_reducible(self):
        for prime in PRIMES:
            letter, one = Function.letter(prime), Function.number(prime, 1)
            logs = Operator(prime, (Function.number(prime, 0), one // letter, one))
            for operator in (logs, tilted(logs, letter), alike_to(self.source, logs)):
                self.assertEqual(reducible_paper(operator)[0], "piece")
                self.assertEqual(reducible_paper(operator)[2], 2)


class SayingsTest(unittest.TestCase):
    def test_first_of_19_7(self):
        flat = D3 * D3
        self.assertFalse(ring_product(flat, EULER, D3))
        self.assertEqual(ring_product(flat, D3, EULER), D3)


if __name__ == "__main__":
    unittest.main()
