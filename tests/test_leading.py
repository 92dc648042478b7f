"""[18.1] to [18.7], and [0.19]: leading operators, pieces, operators that are alike."""

import unittest

from slopewords.errors import InvalidOperation, InvalidOperator, TooMany
from slopewords.func.functions import Function
from slopewords.kin.leading import MAX_LED, MAX_TOP, alike_paper, are_alike, does_lead, is_alike_paper, leading_base
from slopewords.kin.leading import leading_number, leading_table, led_behind, pieces
from slopewords.line.tables import idle_table, table_kernel, table_plus, table_product, table_rank, undone_table
from slopewords.made.rows import made_base
from slopewords.oper.changes import tilted, turned_over
from slopewords.oper.common import right_common
from slopewords.oper.division import right_division
from slopewords.oper.operators import Operator
from slopewords.turn.norms import norm
from slopewords.turn.roots import parts, rootless, roots
from slopewords.turn.turns import turn
from tests.support import BAR, D2, D3, EMPTY3, KINDS, LOGS, NO, ONE, PRIMES, X2, X3, Source, alike_to, barred
from tests.support import check_error, check_refusals, drawn_firsts, joined, longest, operator_kind, parts_row, product_of
from tests.support import rootless_operator, value_kind

EULER = Operator(3, (NO, X3))
UNIT3 = Operator.times(ONE)
BOTH = (leading_base, leading_number, are_alike, alike_paper)


def slow_base(one, other):
    """The echelon base, as the kernel of the table that tells the rests of M U by L for all x ** k D ** i as U."""
    prime, size = one.prime, one.degree
    columns = []
    for index in range(size):
        for power in range(prime):
            first = Operator.times(Function(prime, (0,) * power + (1,), (1,))) * Operator.slopes(prime, index)
            rest = right_division(other * first, one)[1]
            columns.append(parts_row([rest.entry(place) for place in range(size)]))
    rows = table_kernel(tuple(zip(*columns)))
    return tuple(operator_of(prime, joined(prime, row)) for row in rows)


def operator_of(prime, entries):
    """The operator with these entries, zeros at the end left out."""
    total = Operator(prime, ())
    for index, entry in enumerate(entries):
        total = total + Operator.times(entry) * Operator.slopes(prime, index)
    return total


def table_at_turn(operator, entries):
    """The table that a norm polynomial becomes with the turn for y and x ** p for t."""
    size = operator.degree
    idle = idle_table(operator.prime, size)
    total = table_plus(idle, idle, times=-1)
    for entry in entries[::-1]:
        scaled = tuple(tuple(entry.spread() * number for number in row) for row in idle)
        total = table_plus(table_product(total, turn(operator)), scaled)
    return total


class Samples(unittest.TestCase):
    def setUp(self):
        self.source = Source(181)

    def operators(self, prime, most=3):
        """Operators of the degrees from 1 on: alike firsts, unlike ones, flat ones, rootless and barred ones."""
        found = []
        for degree in range(1, most + 1):
            for alike in (False, True):
                found.append(product_of(self.source, prime, drawn_firsts(self.source, prime, degree, alike)))
            if degree <= prime:
                found.append(Operator.slopes(prime, degree))
        found.append(rootless_operator(self.source, prime, 2))
        if prime <= most:
            found.append(barred(prime))
        return found

    def pairs(self, prime, most=3):
        """Pairs of these operators, and of each one with one that is alike."""
        found = self.operators(prime, most)
        pairs = [(one, self.source.choice(found)) for one in found]
        for one in found:
            if one.degree < 3 or prime < 5:
                pairs.append((one, alike_to(self.source, one)))
        return [pair for pair in pairs if longest(pair) <= 24]


class KindsTest(Samples):
    def test_constants(self):
        self.assertEqual((MAX_LED, MAX_TOP), (3, 24))

    def test_refusals(self):
        one, other = operator_kind(LOGS), operator_kind(D3)
        for call in BOTH:
            check_refusals(self, call, [one, other])
        for call in (does_lead, is_alike_paper):
            check_refusals(self, call, [one, other, value_kind(None)])
        for call in (led_behind, leading_table):
            check_refusals(self, call, [one, other, operator_kind(EULER)])
        check_refusals(self, pieces, [one])

    def test_unlike_primes_and_low_degrees(self):
        for call in BOTH:
            check_error(self, InvalidOperation, call, [D3, D2], {})
            check_error(self, InvalidOperation, call, [D3 ** 4, D2], {})
            for low in (EMPTY3, UNIT3):
                check_error(self, InvalidOperation, call, [D3, low], {})
                check_error(self, InvalidOperation, call, [low, D3 ** 4], {})
        for call in (led_behind, leading_table):
            check_error(self, InvalidOperation, call, [LOGS, D3, D2], {})
            check_error(self, InvalidOperation, call, [D3 ** 4, D3, D2], {})
            check_error(self, InvalidOperator, call, [D2, D3, None], {})
            for wrong in (D3, Operator.times(X3), D3 * D3, EULER + UNIT3):
                check_error(self, InvalidOperation, call, [LOGS, D3, wrong], {})
        check_error(self, InvalidOperation, pieces, [UNIT3], {})
        for call in (does_lead, is_alike_paper):
            check_error(self, InvalidOperation, call, [D3, D2, None], {})
            check_error(self, InvalidOperation, call, [UNIT3, D3, None], {})

    def test_sizes(self):
        for prime in PRIMES:
            one, letter = Function.number(prime, 1), Function.letter(prime)
            first, third = Operator.slopes(prime, 1), Operator.slopes(prime, 3)
            for right in (Operator(prime, (letter ** 20 * letter ** 4, one)), third,
                          Operator(prime, (one // (letter ** 20 * letter ** 4), one))):
                for call in BOTH:
                    call(right, first)
                    call(first, right)
                pieces(right)
                does_lead(right, right, right)
            for wrong, limit in ((Operator(prime, (letter ** 20 * letter ** 5, one)), 24), (Operator.slopes(prime, 4), 3),
                                 (Operator(prime, (one, one // (letter ** 20 * letter ** 5))), 24)):
                for call in BOTH:
                    self.assertEqual(check_error(self, TooMany, call, [wrong, first], {}).limit, limit)
                    self.assertEqual(check_error(self, TooMany, call, [first, wrong], {}).limit, limit)
                for call in (does_lead, is_alike_paper, led_behind, leading_table):
                    self.assertEqual(check_error(self, TooMany, call, [first, wrong, first], {}).limit, limit)
                self.assertEqual(check_error(self, TooMany, pieces, [wrong], {}).limit, limit)

    def test_leading_operators_of_any_lengths(self):
        """Only the ends have to be short."""
        for prime in PRIMES:
            first = Operator.slopes(prime, 1)
            long = Operator.times((Function.letter(prime) ** 20).spread())
            self.assertIs(does_lead(first, first, long), True)
            self.assertEqual(led_behind(first, first, long), long)
            self.assertEqual(leading_table(first, first, long), ((long.head,),))

    def test_judged_values(self):
        square = D3 * D3
        right = ("leading", Operator.times(X3), Operator.times(ONE // X3))
        line = Operator.factor(ONE // X3)
        near = KINDS + [
            ("degree",), ("degree", 1), ["degree"], ("leading",), ("leading", D3, D3), ("leading", UNIT3, UNIT3),
            ("leading", EMPTY3, EMPTY3), ("leading", right[1], right[1]), ("leading", right[2], right[1]), [*right],
            ("leading", right[1], None), ("leading", None, right[2]), ("Leading", *right[1:]), (*right, 1), right[1:],
            ("piece",), ("piece", (NO, ONE)), ("piece", (NO, ONE), True), ("piece", (NO, ONE), 3), ("piece", [NO, ONE], 1),
            ("piece", (NO, X3), 1), ("piece", None, 1), ("piece", (NO, ONE), None), ("piece", (X3, ONE), 1)]
        for value in near:
            self.assertIs(does_lead(LOGS, D3, value), False)
            self.assertIs(is_alike_paper(D3, line, value), False)
            self.assertIs(is_alike_paper(D3, square, value), value in [("degree",)])
            self.assertIs(is_alike_paper(LOGS, square, value), False)
        self.assertIs(is_alike_paper(D3, line, right), True)
        for power in (1, 2):
            self.assertIs(is_alike_paper(LOGS, square, ("piece", (NO, ONE), power)), True)
            self.assertIs(is_alike_paper(square, LOGS, ("piece", (NO, ONE), power)), True)
        self.assertIs(is_alike_paper(D3, square, ("piece", (NO, ONE), 1)), True)


class LeadingTest(Samples):
    def test_18_1_bases(self):
        for prime in PRIMES:
            for one, other in self.pairs(prime):
                base = leading_base(one, other)
                self.assertEqual(len(base), leading_number(one, other))
                for operator in base:
                    self.assertIs(does_lead(one, other, operator), True)
                    behind = led_behind(one, other, operator)
                    self.assertEqual(other * operator, behind * one)
                    for made in made_base(one):
                        self.assertFalse(other(operator(made)))
                    self.assertIs(does_lead(one, other, operator + Operator.slopes(prime, one.degree)), False)
                if base:
                    by = Function.letter(prime).spread()
                    self.assertIs(does_lead(one, other, base[0].led(by) - base[-1]), True)
                self.assertIs(does_lead(one, other, Operator(prime, ())), True)
                self.assertFalse(led_behind(one, other, Operator(prime, ())))

    def test_18_2_echelons(self):
        """The rows of parts are an echelon, and the base is all that there is."""
        for prime in PRIMES:
            for one, other in self.pairs(prime, 2 if prime > 2 else 3):
                self.assertEqual(leading_base(one, other), slow_base(one, other))

    def test_18_2_longer_ones(self):
        for one, other in self.pairs(3)[:6]:
            self.assertEqual(leading_base(one, other), slow_base(one, other))
        for prime in (5, 7):
            one = product_of(self.source, prime, drawn_firsts(self.source, prime, 2, True))
            self.assertEqual(leading_base(one, one), slow_base(one, one))

    def test_flat_ones(self):
        """Between flat operators all tables are there: the base is that of all functions made 0, one by one."""
        for prime in PRIMES:
            for low in range(1, min(prime, 3) + 1):
                for high in range(1, min(prime, 3) + 1):
                    base = leading_base(Operator.slopes(prime, low), Operator.slopes(prime, high))
                    self.assertEqual(len(base), low * high)
            first, other = Operator.slopes(prime, 1), Operator.slopes(prime, 2)
            letter = Function.letter(prime)
            self.assertEqual(leading_base(first, other), (Operator.slopes(prime, 0), Operator.times(letter)))

    def test_18_3_tables(self):
        for prime in PRIMES:
            for one, other in self.pairs(prime):
                left, right = turn(other), turn(one)
                for operator in leading_base(one, other):
                    table = leading_table(one, other, operator)
                    self.assertEqual((len(table), len(table[0])), (other.degree, one.degree))
                    for index, row in enumerate(table):
                        rest = right_division(Operator.slopes(prime, index) * operator, one)[1]
                        self.assertEqual(row, tuple(rest.entry(place) for place in range(one.degree)))
                    self.assertEqual(table_product(left, table), table_product(table, right))

    def test_18_3_and_0_19_numbers(self):
        """As many operators as tables between the turns."""
        for prime in PRIMES:
            for one, other in self.pairs(prime, 2):
                left, right = turn(other), turn(one)
                rows = []
                for low in range(other.degree):
                    for high in range(one.degree):
                        unit = tuple(tuple(Function.number(prime, int((row, column) == (low, high)))
                                           for column in range(one.degree)) for row in range(other.degree))
                        gap = table_plus(table_product(left, unit), table_product(unit, right), times=-1)
                        rows.append(tuple(entry for row in gap for entry in row))
                table = tuple(zip(*rows))
                self.assertEqual(leading_number(one, other), len(rows) - table_rank(table))

    def test_18_3_numbers_and_multiples(self):
        """What leads from a left multiple, or to a right factor, is not less than what leads between parts."""
        for prime in PRIMES:
            for operator in self.operators(prime):
                if operator.degree > 1:
                    found = parts(operator)
                    total = sum(leading_number(one, other) for _, one in found for _, other in found
                                if longest([one, other]) <= 24)
                    if all(longest([one]) <= 24 for _, one in found):
                        self.assertEqual(leading_number(operator, operator), total)


class PiecesTest(Samples):
    def test_18_5_ranks(self):
        for prime in PRIMES:
            for operator in self.operators(prime):
                found = pieces(operator)
                total = 0
                for entries, power, times in found:
                    total += (len(entries) - 1) * power * times
                    self.assertEqual(entries[-1], Function.number(prime, 1))
                    self.assertEqual(times, self.slow_times(operator, entries, power))
                self.assertEqual(total, operator.degree)
                due = [(-root, Function.number(prime, 1)) for root, _ in roots(norm(operator))]
                rest = rootless(norm(operator))
                due += [rest] if len(rest) > 1 else []
                told = [entries for entries, _, _ in found]
                self.assertEqual([entries for index, entries in enumerate(told) if entries not in told[:index]], due)
                for one, other in zip(found, found[1:]):
                    self.assertTrue(one[0] != other[0] or one[1] < other[1])

    def slow_times(self, operator, entries, power):
        table = table_at_turn(operator, entries)
        ranks, product = [operator.degree], idle_table(operator.prime, operator.degree)
        for _ in range(power + 1):
            product = table_product(product, table)
            ranks.append(table_rank(product))
        return (ranks[power - 1] - 2 * ranks[power] + ranks[power + 1]) // (len(entries) - 1)

    def test_pieces_of_few(self):
        for prime in PRIMES:
            none, one, letter = Function.number(prime, 0), Function.number(prime, 1), Function.letter(prime)
            logs = Operator(prime, (none, one // letter, one))
            self.assertEqual(pieces(logs), (((none, one), 2, 1),))
            if prime > 2:
                self.assertEqual(pieces(Operator.slopes(prime, 3)), (((none, one), 1, 3),))
                if prime > 3:
                    self.assertEqual(pieces(Operator.slopes(prime, 2)), (((none, one), 1, 2),))
                third = Operator.factor(one // letter) * logs
                self.assertEqual(sum(power * times for _, power, times in pieces(third)), 3)
            self.assertEqual(pieces(Operator.slopes(prime, 1)), (((none, one), 1, 1),))
            rest = rootless_operator(self.source, prime, 3)
            self.assertEqual(pieces(rest), ((norm(rest), 1, 1),))
        self.assertEqual(pieces(BAR), (((-Function.number(2, 1) // X2, Function.number(2, 1)), 1, 2),))
        self.assertEqual(pieces(barred(3)), (((-ONE // X3, ONE), 1, 3),))
        # Modulo 2, D ** 3 is D times the flat D D, and its turn is not 0.
        self.assertEqual([row[1:] for row in pieces(D2 ** 3)], [(1, 1), (2, 1)])
        self.assertEqual([row[1:] for row in pieces(D2 * BAR)], [(1, 2), (1, 1)])

    def test_18_5_further_operators(self):
        """Powers of 1, 2 and 3, several times."""
        seen = set()
        for prime in PRIMES:
            for operator in self.operators(prime):
                seen |= {row[1:] for row in pieces(operator)}
            one, letter = Function.number(prime, 1), Function.letter(prime)
            chain = Operator.factor(one // letter) * Operator.factor(one // (letter + one)) * Operator.slopes(prime, 1)
            seen |= {row[1:] for row in pieces(chain)}
        self.assertLessEqual({(1, 1), (2, 1), (3, 1), (1, 2), (1, 3)}, seen)

    def test_18_6_numbers(self):
        for prime in PRIMES:
            for one, other in self.pairs(prime):
                total = 0
                for entries, power, times in pieces(one):
                    for further, level, often in pieces(other):
                        total += (entries == further) * min(power, level) * times * often * (len(entries) - 1)
                self.assertEqual(leading_number(one, other), total)

    def test_unlike_norms(self):
        """Nothing leads between operators whose norms have nothing in common."""
        for prime in PRIMES:
            letter = Function.letter(prime)
            self.assertEqual(leading_base(Operator.slopes(prime, 2), Operator.factor(letter)), ())
            self.assertEqual(leading_number(Operator.factor(letter), Operator.slopes(prime, 1)), 0)
            rest = rootless_operator(self.source, prime, 2)
            self.assertEqual(leading_base(rest, Operator.slopes(prime, 2)), ())


class AlikeTest(Samples):
    def test_18_4_alike(self):
        seen = set()
        for prime in PRIMES:
            for one, other in self.pairs(prime):
                paper = alike_paper(one, other)
                seen.add(paper[0])
                self.assertIs(is_alike_paper(one, other, paper), True)
                self.assertIs(are_alike(one, other), paper[0] == "leading")
                self.assertIs(paper == ("degree",), one.degree != other.degree)
                if paper[0] == "leading":
                    self.check_alike(one, other, paper[1], paper[2])
                elif paper[0] == "piece":
                    self.check_piece(one, other, paper)
        self.assertEqual(seen, {"leading", "degree", "piece"})

    def check_alike(self, one, other, first, second):
        prime = one.prime
        unit = Operator.slopes(prime, 0)
        self.assertIs(does_lead(one, other, first), True)
        self.assertIs(does_lead(other, one, second), True)
        self.assertEqual(right_division(second * first, one)[1], unit)
        self.assertEqual(right_division(first * second, other)[1], unit)
        self.assertEqual(right_common(first, one).degree, 0)
        self.assertIsNotNone(undone_table(leading_table(one, other, first)))
        letter = Function.letter(prime)
        by = letter.spread()
        scaled = ("leading", first.led(by), second.led(Function.number(prime, 1) // by))
        self.assertIs(is_alike_paper(one, other, scaled), True)
        for wrong in ((first, second.led(by)), (first.led(letter), second), (second, first), (first, first),
                      (first, second + one), (first + one, second)):
            value = ("leading", *wrong)
            right = (does_lead(one, other, wrong[0]) and does_lead(other, one, wrong[1])
                     and right_division(wrong[1] * wrong[0], one)[1] == unit)
            self.assertIs(is_alike_paper(one, other, value), right)
        self.assertIs(is_alike_paper(one, other, ("degree",)), False)

    def check_piece(self, one, other, paper):
        counted = [{(self.key(entries), power): times for entries, power, times in pieces(operator)}
                   for operator in (one, other)]
        for entries, power, times in pieces(one):
            key = (self.key(entries), power)
            if counted[1].get(key) != times:
                self.assertEqual(paper, ("piece", entries, power))
                break
        for entries, power, _ in (*pieces(one), *pieces(other)):
            key = (self.key(entries), power)
            value = ("piece", entries, power)
            self.assertIs(is_alike_paper(one, other, value), counted[0].get(key) != counted[1].get(key))
            self.assertIs(is_alike_paper(one, other, ("piece", entries, power + 1)),
                          counted[0].get((key[0], power + 1)) != counted[1].get((key[0], power + 1)))

    def key(self, entries):
        return tuple((entry.top, entry.bottom) for entry in entries)

    def test_tilted_and_turned_over(self):
        """Alike operators stay alike."""
        for prime in PRIMES:
            for one in self.operators(prime, 2):
                other = alike_to(self.source, one)
                function = self.source.function(prime, 1, 1)
                for change in (turned_over, lambda operator: tilted(operator, function)):
                    changed = [change(operator) for operator in (one, other)]
                    if longest(changed) <= 24:
                        self.assertIs(are_alike(*changed), True)
                self.assertIs(are_alike(one, one.led(Function.letter(prime))), True)
                self.assertEqual(norm(one.monic()), norm(other.monic()))

    def test_18_4_and_0_19_tables(self):
        """Operators are alike exactly if some table between the turns has an inverse."""
        for prime in PRIMES:
            for one, other in self.pairs(prime):
                paper = alike_paper(one, other)
                if one.degree == other.degree and paper[0] != "leading":
                    base = leading_base(one, other)
                    for operator in base:
                        self.assertIsNone(undone_table(leading_table(one, other, operator)))
                    if len(base) > 1:
                        total = base[0] + base[1].led(Function.letter(prime).spread())
                        self.assertIsNone(undone_table(leading_table(one, other, total)))

    def test_unlike_degrees(self):
        for prime in PRIMES:
            first, other = Operator.slopes(prime, 1), Operator.slopes(prime, 2)
            self.assertEqual(alike_paper(first, other), ("degree",))
            self.assertEqual(alike_paper(other, first), ("degree",))
            self.assertIs(are_alike(first, other), False)


class SayingsTest(unittest.TestCase):
    def test_18_7(self):
        self.assertEqual([str(part) for part in norm(LOGS)], [str(part) for part in norm(D3 * D3)])
        self.assertIs(are_alike(LOGS, D3 * D3), False)
        back = UNIT3 - Operator(3, (NO, X3))
        self.assertIs(does_lead(D3, D3 * D3, UNIT3), True)
        self.assertIs(does_lead(D3 * D3, D3, back), True)
        self.assertEqual(right_division(back * UNIT3, D3)[1], UNIT3)
        self.assertIs(is_alike_paper(D3, D3 * D3, ("leading", UNIT3, back)), False)
        self.assertIs(does_lead(LOGS, LOGS, EULER), True)
        self.assertNotEqual(LOGS * EULER, EULER * LOGS)
        self.assertIs(does_lead(LOGS, D3, EULER), True)
        self.assertEqual(leading_base(D3, LOGS), (UNIT3,))
        for number in (1, 2):
            product = UNIT3.led(Function.number(3, number)) * EULER
            self.assertNotEqual(right_division(product, LOGS)[1], UNIT3)


if __name__ == "__main__":
    unittest.main()
