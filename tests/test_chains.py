"""[17.1] to [17.6]: irreducible operators, chains of factors, exchanged factors."""

import itertools
import unittest

from slopewords.errors import InvalidOperation, InvalidOperator, Refused, TooMany
from slopewords.first.chains import MAX_SPLIT, MAX_TOP, chain, chain_length, chain_pairs, exchanged, is_chain
from slopewords.first.chains import is_chain_pairs, is_irreducible_operator, is_split_paper, split_paper
from slopewords.first.sources import bars, has_source
from slopewords.func.functions import Function
from slopewords.func.slopes import turn_of
from slopewords.kin.leading import are_alike
from slopewords.oper.changes import tilted, turned_over
from slopewords.oper.operators import Operator
from slopewords.turn.norms import norm, norm_product
from slopewords.turn.roots import rootless, roots
from tests.support import BAR, D2, D3, EMPTY3, KINDS, LOGS, NO, ONE, PRIMES, X2, X3, Source, alike_to, barred
from tests.support import check_error, check_refusals, drawn_firsts, longest, operator_kind, product_of
from tests.support import rootless_operator, slow_product_of, turning_kind, value_kind

AIRY = Operator(3, (-X3, NO, ONE))
PAIR = (Operator(3, (ONE // X3, ONE)), D3)
SPLITS = (split_paper, is_irreducible_operator, chain, chain_length)


def monic_norm(operator):
    """The norm, divided by its last function."""
    entries = norm(operator)
    return tuple(entry // entries[-1] for entry in entries)


class Samples(unittest.TestCase):
    def setUp(self):
        self.source = Source(171)

    def irreducible(self, prime):
        """Irreducible operators of the degrees 1, 2 and 3 of each kind that there is."""
        found = [Operator.factor(self.source.function(prime, 2, 1))]
        found += [rootless_operator(self.source, prime, degree) for degree in (2, 3)]
        if prime < 5:
            found += [barred(prime), alike_to(self.source, barred(prime)), tilted(barred(prime), Function.letter(prime))]
        return found

    def products(self, prime):
        """Products of irreducible operators in every sequence of degrees, with the number of the factors."""
        found = []
        for sequence in ((1, 1), (1, 1, 1), (1, 2), (2, 1)):
            members = [self.member(prime, degree) for degree in sequence]
            found.append((slow_product_of(members), len(sequence)))
        for alike in (False, True):
            for many in (2, 3):
                found.append((product_of(self.source, prime, drawn_firsts(self.source, prime, many, alike)), many))
        if prime == 2:
            found += [(BAR * D2, 2), (D2 * BAR, 2), (BAR * Operator.factor(X2), 2)]
        return found

    def member(self, prime, degree):
        if degree == 1:
            return Operator.factor(self.source.function(prime, 2, 1))
        return rootless_operator(self.source, prime, degree)


class KindsTest(Samples):
    def test_constants(self):
        self.assertEqual((MAX_SPLIT, MAX_TOP), (3, 24))

    def test_refusals(self):
        operator = turning_kind(LOGS)
        for call in SPLITS:
            check_refusals(self, call, [operator])
        for call in (is_split_paper, is_chain):
            check_refusals(self, call, [operator, value_kind(None)])
        check_refusals(self, chain_pairs, [operator, value_kind(PAIR), value_kind(PAIR)])
        check_refusals(self, is_chain_pairs, [operator, value_kind(PAIR), value_kind(PAIR), value_kind(None)])
        check_refusals(self, exchanged, [operator_kind(D3), operator_kind(Operator.factor(ONE))])

    def test_sizes(self):
        for prime in PRIMES:
            one, letter = Function.number(prime, 1), Function.letter(prime)
            for right in (Operator(prime, (letter ** 20 * letter ** 4, one)), Operator.slopes(prime, 3),
                          Operator(prime, (one // (letter ** 20 * letter ** 4), one))):
                for call in SPLITS:
                    call(right)
                is_split_paper(right, None)
                is_chain(right, None)
            for wrong, limit in ((Operator(prime, (letter ** 20 * letter ** 5, one)), 24), (Operator.slopes(prime, 4), 3),
                                 (Operator(prime, (one, one // (letter ** 20 * letter ** 5))), 24),
                                 (Operator.slopes(prime, 8), 3)):
                for call in SPLITS:
                    self.assertEqual(check_error(self, TooMany, call, [wrong], {}).limit, limit)
                for call, more in ((is_split_paper, [None]), (is_chain, [None]), (chain_pairs, [None, None]),
                                   (is_chain_pairs, [None, None, None])):
                    self.assertEqual(check_error(self, TooMany, call, [wrong, *more], {}).limit, limit)
            for low in (Operator(prime, ()), Operator.times(letter)):
                for call in SPLITS:
                    check_error(self, InvalidOperation, call, [low], {})
                check_error(self, InvalidOperation, is_split_paper, [low, ("first",)], {})
                check_error(self, InvalidOperation, is_chain, [low, (low,)], {})

    def test_no_chains(self):
        for bad in KINDS + [PAIR[::-1], (D3,), (LOGS, Operator.times(ONE)), [*PAIR], ((*PAIR,),), (D3, D2)]:
            if bad != (LOGS,):
                check_error(self, InvalidOperation, chain_pairs, [LOGS, bad, PAIR], {})
                check_error(self, InvalidOperation, chain_pairs, [LOGS, PAIR, bad], {})
                check_error(self, InvalidOperation, is_chain_pairs, [LOGS, bad, PAIR, (0, 1)], {})
                check_error(self, InvalidOperation, is_chain_pairs, [LOGS, PAIR, bad, (0, 1)], {})

    def test_exchange_errors(self):
        factor = Operator.factor(ONE)
        check_error(self, InvalidOperation, exchanged, [D3, D2], {})
        check_error(self, InvalidOperation, exchanged, [EMPTY3, D3], {})
        check_error(self, InvalidOperation, exchanged, [D3, Operator.times(X3)], {})
        check_error(self, InvalidOperator, exchanged, [None, EMPTY3], {})
        check_error(self, InvalidOperation, exchanged, [D3 ** 4 * D3, Operator.times(X3)], {})
        for one, other in ((D3 ** 4, factor), (D3 ** 2, factor ** 3), (D3, factor ** 4)):
            self.assertEqual(check_error(self, TooMany, exchanged, [one, other], {}).limit, 4)
        for long in (Operator.factor(X3 ** 20 * X3 ** 5), Operator.factor(ONE // (X3 ** 20 * X3 ** 5))):
            self.assertEqual(check_error(self, TooMany, exchanged, [long, D3], {}).limit, 24)
            self.assertEqual(check_error(self, TooMany, exchanged, [D3, long], {}).limit, 24)
            self.assertEqual(check_error(self, TooMany, exchanged, [long, long], {}).limit, 24)
            self.assertEqual(check_error(self, TooMany, exchanged, [D3 ** 4, long], {}).limit, 4)
        exchanged(Operator.factor(X3 ** 20 * X3 ** 4), D3)

    def test_judged_values(self):
        place = split_paper(BAR)
        near = KINDS + [
            ("first",), ("norm",), ["norm"], ("Norm",), ("factors",), ("factors", D3), ("factors", D3, D3), (AIRY,),
            ("factors", LOGS, Operator.times(ONE)), ("factors", Operator.times(ONE), LOGS), ("factors", PAIR), PAIR[::-1],
            ["factors", *PAIR], ("factors", D3, PAIR[0]), ("factors", D2, D2), ("factors", 1, 2), ("factors", None, D3),
            ("place",), ("place", X2, (0, 1), 1), ("place", place[1], "end", 1), ("place", place[1], (0, 1), True),
            ("place", place[1], (False, True), 1), ("place", place[1], (0, 1)), ("place", (0, 1), 1), ("norm", 1),
            ("place", place[1], [0, 1], 1), ("place", place[1], (0, 1), 1, 1), ("place", None, None, None), (D3, D3), ()]
        for value in near:
            self.assertIs(is_split_paper(LOGS, value), False)
            self.assertIs(is_split_paper(BAR, value), False)
            self.assertIs(is_split_paper(AIRY, value), value == ("norm",))
            self.assertIs(is_split_paper(D3, value), value == ("first",))
            self.assertIs(is_chain(LOGS, value), False)
            self.assertIs(is_chain(AIRY, value), value == (AIRY,))
            self.assertIs(is_chain_pairs(LOGS, PAIR, PAIR, value), False)
        self.assertIs(is_split_paper(BAR, place), True)
        for value in ((0, 1), (1, 0)):
            self.assertIs(is_chain_pairs(LOGS, PAIR, PAIR, value), True)
        for value in ((0, 0), (1, 1), (0, True), (False, 1), (0,), (0, 1, 2), [0, 1], (1, 2), (-1, 0), (0, 10 ** 60)):
            self.assertIs(is_chain_pairs(LOGS, PAIR, PAIR, value), False)


class SplitTest(Samples):
    def test_17_2_irreducible(self):
        for prime in PRIMES:
            for operator in self.irreducible(prime):
                self.assertIs(is_irreducible_operator(operator), True)
                self.assertEqual(chain_length(operator), 1)
                self.assertEqual(chain(operator), (operator,))
                paper = split_paper(operator)
                self.assertIs(is_split_paper(operator, paper), True)
                found = roots(norm(operator))
                if operator.degree == 1:
                    self.assertEqual(paper, ("first",))
                elif found:
                    root, many = found[0]
                    self.assertEqual((len(found), many, operator.degree), (1, prime, prime))
                    self.assertEqual(paper, ("place", root, *bars(root)[0]))
                else:
                    self.assertEqual(paper, ("norm",))
                for wrong in (("first",), ("norm",), ("factors", operator, Operator.slopes(prime, 0))):
                    self.assertIs(is_split_paper(operator, wrong), wrong == paper)

    def test_kinds_of_barred_operators(self):
        for prime, degree in ((2, 2), (3, 3)):
            operator = barred(prime)
            self.assertEqual((operator.degree, split_paper(operator)[0]), (degree, "place"))
            self.assertIs(is_chain(operator, (operator,)), True)
            self.assertIs(is_irreducible_operator(turned_over(operator)), True)

    def test_17_2_products(self):
        for prime in PRIMES:
            for operator, length in self.products(prime):
                self.assertIs(is_irreducible_operator(operator), False)
                paper = split_paper(operator)
                self.assertEqual(paper[0], "factors")
                self.assertEqual(paper[1] * paper[2], operator)
                self.assertGreaterEqual(min(paper[1].degree, paper[2].degree), 1)
                self.assertIs(is_split_paper(operator, paper), True)
                letter = Function.letter(prime)
                moved = (paper[1] * Operator.times(letter), Operator.times(Function.number(prime, 1) // letter) * paper[2])
                self.assertIs(is_split_paper(operator, ("factors", *moved)), True)
                self.assertIs(is_split_paper(operator, ("factors", paper[1], moved[1])), False)
                for wrong in (("first",), ("norm",), ("factors", paper[2], paper[1])):
                    self.assertIs(is_split_paper(operator, wrong),
                                  wrong[0] == "factors" and paper[2] * paper[1] == operator)

    def test_17_3_chains(self):
        for prime in PRIMES:
            for operator, length in self.products(prime):
                self.assertEqual(chain_length(operator), length)
                found = chain(operator)
                self.assertEqual(len(found), length)
                self.assertEqual(slow_product_of(found), operator)
                self.assertTrue(all(is_irreducible_operator(member) for member in found))
                self.assertIs(is_chain(operator, found), True)
                self.check_near_chains(operator, found)

    def check_near_chains(self, operator, found):
        prime = operator.prime
        one, letter = Function.number(prime, 1), Function.letter(prime)
        moved = (found[0] * Operator.times(letter), Operator.times(one // letter) * found[1], *found[2:])
        self.assertIs(is_chain(operator, moved), True)
        joined = (found[0] * found[1], *found[2:])
        units = (Operator.times(one), *found)
        changed = (found[0] + Operator.times(letter), *found[1:])
        for wrong in (joined, units, changed, list(found), found[:-1], (*found, Operator.slopes(prime, 1)), found[0]):
            self.assertIs(is_chain(operator, wrong), False)

    def test_17_3_lengths(self):
        """The length is told by the roots, their numbers, and what is left of the norm."""
        for prime in PRIMES:
            for operator in [member for member, _ in self.products(prime)] + self.irreducible(prime):
                entries = norm(operator)
                length = sum(many if has_source(root) else many // prime for root, many in roots(entries))
                self.assertEqual(chain_length(operator), length + (len(rootless(entries)) > 1))

    def test_chains_of_others(self):
        """Members can be alike and not equal, and have functions of any degrees."""
        for prime in PRIMES:
            one, letter = Function.number(prime, 1), Function.letter(prime)
            made = one + letter * (letter ** 20 * letter ** 15).spread()
            function = made.slope() // made
            operator = Operator.slopes(prime, 2)
            found = (Operator.factor(-function), Operator.factor(function))
            self.assertEqual(found[0] * found[1], operator)
            self.assertIs(is_chain(operator, found), True)
            self.assertIs(is_split_paper(operator, ("factors", *found)), True)
            flat = (Operator.slopes(prime, 1),) * 2
            self.assertIn(chain_pairs(operator, found, flat), ((0, 1), (1, 0)))


class PairsTest(Samples):
    def other_chain(self, operator):
        """A chain from the left, by the chain of the operator turned over."""
        sign = Operator.times(Function.number(operator.prime, 1))
        members = [turned_over(member) for member in chain(turned_over(operator))][::-1]
        return (sign * members[0], *members[1:])

    def test_17_4_pairs(self):
        for prime in PRIMES:
            for operator, _ in self.products(prime):
                one, other = chain(operator), self.other_chain(operator)
                self.assertIs(is_chain(operator, other), True)
                found = chain_pairs(operator, one, other)
                self.assertIs(is_chain_pairs(operator, one, other, found), True)
                self.assertEqual(sorted(found), list(range(len(one))))
                for value in itertools.permutations(range(len(one))):
                    pairs = [(one[at], other[index]) for at, index in enumerate(value)]
                    norms = all(monic_norm_of(member) == monic_norm_of(partner) for member, partner in pairs)
                    self.assertIs(is_chain_pairs(operator, one, other, value), norms)
                    if longest([*one, *other]) <= 24:
                        self.assertEqual(all(are_alike(*pair) for pair in pairs), norms)

    def test_17_4_alike(self):
        """Irreducible operators are alike exactly if their monic norms are equal."""
        for prime in PRIMES:
            for one in self.irreducible(prime):
                for other in [*self.irreducible(prime), alike_to(self.source, one)]:
                    self.assertEqual(are_alike(one, other), monic_norm(one) == monic_norm(other))
                self.assertIs(are_alike(one, alike_to(self.source, one)), True)


def monic_norm_of(operator):
    """The monic norm of an operator with functions of any degrees, made of those of its factors of degree 1."""
    if operator.degree == 1:
        return (-turn_of(-operator.entries[0] // operator.head), Function.number(operator.prime, 1))
    return monic_norm(operator)


class ExchangeTest(Samples):
    def test_17_5_exchanged(self):
        for prime in PRIMES:
            for one, other in self.pairs(prime):
                try:
                    found = exchanged(one, other)
                except Refused as refused:
                    self.assertEqual(refused.reason, ("common",))
                    self.assertTrue(self.have_common(one, other))
                    continue
                self.assertFalse(self.have_common(one, other))
                self.assertEqual(found[0] * found[1], one * other)
                self.assertEqual(found[1].head, Function.number(prime, 1))
                self.assertEqual((found[0].degree, found[1].degree), (other.degree, one.degree))
                if longest([found[1]]) <= 24:
                    self.assertEqual(norm(found[1]), monic_norm(one))
                if longest([one * other]) <= 24:
                    self.assertEqual(monic_norm(one * other), norm_product(monic_norm(one), monic_norm(other)))

    def pairs(self, prime):
        """Pairs of degrees that add up to at most 4, some of them with a common root."""
        found = []
        for low, high in ((1, 1), (1, 2), (2, 1), (2, 2), (1, 3), (3, 1)):
            one = product_of(self.source, prime, drawn_firsts(self.source, prime, low))
            other = product_of(self.source, prime, drawn_firsts(self.source, prime, high))
            found += [(one, other), (one, Operator.slopes(prime, high)), (Operator.slopes(prime, low), other)]
        rest = rootless_operator(self.source, prime, 2)
        return found + [(rest, Operator.slopes(prime, 1)), (Operator.slopes(prime, 1), rest), (rest, rest),
                        (Operator.slopes(prime, 1),) * 2]

    def have_common(self, one, other):
        """Whether a common root, or the common rest of both norms, is there."""
        left, right = norm(one), norm(other)
        if {root.top + (None,) + root.bottom for root, _ in roots(left)} & {
                root.top + (None,) + root.bottom for root, _ in roots(right)}:
            return True
        return len(rootless(left)) > 1 and rootless(left) == rootless(right)

    def test_exchanged_twice(self):
        for prime in PRIMES:
            one, other = Operator.slopes(prime, 1), Operator.factor(Function.number(prime, 1))
            self.assertEqual(exchanged(one, other), (other, one))
            self.assertEqual(exchanged(other, one), (one, other))
            left, right = Operator.factor(Function.letter(prime)), Operator.slopes(prime, 1)
            found = exchanged(left, right)
            self.assertEqual(exchanged(*found), (left, right))


class SayingsTest(unittest.TestCase):
    def test_17_6(self):
        self.assertEqual(([str(part) for part in norm(D3 * D3)], is_irreducible_operator(D3 * D3)), (["0", "0", "1"], False))
        square = AIRY * AIRY
        self.assertEqual(norm(square), norm_product(norm(AIRY), norm(AIRY)))
        self.assertEqual(square.degree, 4)
        self.assertEqual(check_error(self, Refused, exchanged, [D3, PAIR[0]], {}).reason, ("common",))
        self.assertIs(is_chain(LOGS, PAIR), True)
        self.assertNotEqual(*PAIR)
        self.assertIs(are_alike(*PAIR), True)


if __name__ == "__main__":
    unittest.main()
