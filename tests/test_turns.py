"""[12.1] to [12.6]: turns."""

import math
import unittest

from slopewords.errors import InvalidOperation, TooMany, UnknownName
from slopewords.func.functions import Function
from slopewords.func.slopes import turn_of
from slopewords.line.tables import determinant, idle_table, own_poly, power_ranks, table_plus, table_product
from slopewords.line.tables import table_rank, table_slope
from slopewords.made.rows import made_number, vanisher
from slopewords.oper.changes import tilted, turned_over
from slopewords.oper.common import left_multiple, right_common
from slopewords.oper.division import is_right_factor, power_rest, right_division
from slopewords.oper.operators import Operator
from slopewords.turn.turns import MAX_DEGREE, MAX_TOP, ROADS, flat_paper, is_flat, step_table, turn, turn_ranks
from tests.support import BAR, D3, EMPTY3, KINDS, LOGS, NO, ONE, PRIMES, X3, Kind, Source, check_error, check_refusals
from tests.support import number_kind, operator_kind

CALLS = (turn, turn_ranks, is_flat, flat_paper)


def zero(prime):
    return Function.number(prime, 0)


def one_of(prime):
    return Function.number(prime, 1)


def road_kind(good):
    return Kind(good, UnknownName, [value for value in KINDS] + ["Steps", "steps ", ("steps",), ROADS, ["halves"]])


def scaled(table, function):
    return tuple(tuple(function * entry for entry in row) for row in table)


class Samples(unittest.TestCase):
    def setUp(self):
        self.source = Source(121)

    def some(self, prime, least=1, most=3):
        return self.source.operator(prime, self.source.number(least, most))

    def function(self, prime):
        return self.source.function(prime, 2, 1)

    def line(self, prime):
        """An operator D - u' / u."""
        function = self.source.nonzero(prime, 2, 1)
        return Operator.factor(function.slope() // function)

    def flat(self, prime):
        """A flat operator, not always monic."""
        while True:
            functions = tuple(self.source.nonzero(prime, 2, 1) for _ in range(self.source.number(1, min(4, prime))))
            operator = vanisher(functions)
            if max(max(len(entry.top), len(entry.bottom)) for entry in operator) < 25:
                return operator.led(self.source.nonzero(prime, 1, 0))


class KindsTest(Samples):
    def test_constants(self):
        self.assertEqual((MAX_DEGREE, MAX_TOP, ROADS), (4, 24, ("division", "steps", "halves")))

    def test_refusals(self):
        operator = operator_kind(LOGS)
        check_refusals(self, step_table, [operator, number_kind(3, 0, 14)])
        check_refusals(self, turn, [operator], "road", road_kind("steps"))
        for call in (turn_ranks, is_flat, flat_paper):
            check_refusals(self, call, [operator])

    def test_roads_are_kept(self):
        for bad in ("round", None, True, 7):
            self.assertEqual(vars(check_error(self, UnknownName, turn, [LOGS], {"road": bad})), {"wanted": bad})

    def test_degrees_below_1(self):
        for operator in (EMPTY3, Operator.times(X3), Operator.times(X3 ** 20 * X3 ** 10)):
            for call in CALLS:
                check_error(self, InvalidOperation, call, [operator], {})
            check_error(self, InvalidOperation, step_table, [operator, 15], {})
            check_error(self, InvalidOperation, turn, [operator], {"road": "round"})

    def test_too_many(self):
        for prime in PRIMES:
            one, letter = one_of(prime), Function.letter(prime)
            high = letter ** 12 * letter ** 12
            five = Operator.slopes(prime, 5)
            for call in CALLS:
                self.assertEqual(check_error(self, TooMany, call, [five], {}).limit, 4)
                self.assertEqual(check_error(self, TooMany, call, [five.led(high * high)], {}).limit, 4)
                for entries in ((high * letter, one), (one // (high * letter), one), (one, high * letter)):
                    self.assertEqual(check_error(self, TooMany, call, [Operator(prime, entries)], {}).limit, 24)
                for entries in ((high, one), (one // high, one), (one, high), (zero(prime), high, one // high)):
                    call(Operator(prime, entries))
                call(Operator.slopes(prime, 4))
            check_error(self, TooMany, step_table, [five, 14], {})
            check_error(self, number_kind(1).error, step_table, [five, 15], {})
            check_error(self, UnknownName, turn, [five], {"road": "round"})


class StepsTest(Samples):
    def test_12_1_steps(self):
        for prime in PRIMES:
            for _ in range(3):
                operator = self.some(prime, 1, 3)
                for many in (0, 1, 2, 5, 9):
                    table = step_table(operator, many)
                    self.assertEqual({len(row) for row in table}, {operator.degree})
                    self.assertEqual(len(table), operator.degree)
                    for place, row in enumerate(table):
                        rest = power_rest(operator, many + place)
                        self.assertEqual(row, tuple(rest.entry(index) for index in range(operator.degree)))
                        if many + place <= 8:
                            power = Operator.slopes(prime, many + place)
                            self.assertEqual(right_division(power, operator)[1], rest)

    def test_12_1_edges(self):
        for prime in PRIMES:
            for degree in (1, 2, 3, 4):
                operator = self.source.operator(prime, degree)
                self.assertEqual(step_table(operator, 0), idle_table(prime, degree))
                first = step_table(operator, 1)
                for place in range(degree - 1):
                    self.assertEqual(first[place], idle_table(prime, degree)[place + 1])
                self.assertEqual(first[-1], tuple(-entry // operator.head for entry in operator.entries[:-1]))
                self.assertEqual(len(step_table(operator, 14)), degree)

    def test_12_2_next(self):
        for prime in PRIMES:
            for _ in range(3):
                operator = self.some(prime, 1, 3)
                first = step_table(operator, 1)
                for many in range(5):
                    table = step_table(operator, many)
                    due = table_plus(table_slope(table), table_product(table, first))
                    self.assertEqual(step_table(operator, many + 1), due)

    def test_12_2_sums(self):
        for prime in PRIMES:
            operator = self.some(prime, 2, 2)
            for low, high in ((1, 3), (2, 2), (3, 1), (0, 4), (3, 2), (2, 3)):
                table, total = step_table(operator, high), None
                for index in range(low + 1):
                    part = table_product(table, step_table(operator, low - index))
                    part = scaled(part, Function.number(prime, math.comb(low, index)))
                    total = part if total is None else table_plus(total, part)
                    table = table_slope(table)
                self.assertEqual(step_table(operator, low + high), total)


class TurnsTest(Samples):
    def test_12_3_roads(self):
        for prime in PRIMES:
            for degree in (1, 2, 3, 4):
                operator = self.source.operator(prime, degree)
                table = turn(operator)
                self.assertEqual(table, step_table(operator, prime))
                for road in ROADS:
                    self.assertEqual(turn(operator, road=road), table)

    def test_12_3_rests(self):
        """D ** prime D ** i less a row of the turn is a multiple of the operator."""
        for prime in PRIMES:
            for _ in range(3):
                operator = self.some(prime, 1, 3)
                for place, row in enumerate(turn(operator)):
                    rest = Operator.slopes(prime, prime) * Operator.slopes(prime, place)
                    for index, entry in enumerate(row):
                        rest = rest - Operator.slopes(prime, index).led(entry)
                    self.assertIs(is_right_factor(rest, operator), True)

    def test_12_3_slopes(self):
        for prime in PRIMES:
            for _ in range(3):
                operator = self.some(prime)
                table, first = turn(operator), step_table(operator, 1)
                due = table_plus(table_product(first, table), table_product(table, first), times=-1)
                self.assertEqual(table_slope(table), due)
                self.assertFalse(any(entry.slope() for entry in own_poly(table)))

    def test_12_4_led(self):
        for prime in PRIMES:
            for _ in range(4):
                operator, function = self.some(prime), self.function(prime)
                self.assertEqual(turn(operator.led(self.source.nonzero(prime, 1, 1))), turn(operator))
                due = function ** prime + function.slope(times=prime - 1)
                self.assertEqual(turn(Operator.factor(function)), ((due,),))
                self.assertEqual(due, turn_of(function).spread())

    def test_12_4_flat(self):
        for prime in PRIMES:
            for _ in range(6):
                operator = self.flat(prime) if self.source.number(0, 1) else self.some(prime) * self.line(prime)
                due = is_right_factor(Operator.slopes(prime, prime), operator)
                self.assertIs(is_flat(operator), due)
                self.assertIs(not any(any(row) for row in turn(operator)), due)
                self.assertIs(turn_ranks(operator) == (0,), due)
                paper = flat_paper(operator)
                if due:
                    self.assertEqual(paper[0], "flat")
                    self.assertEqual(paper[1] * operator, Operator.slopes(prime, prime))
                    self.assertLessEqual(operator.degree, prime)
                    self.assertEqual(made_number(operator), operator.degree)
                else:
                    self.assertEqual(paper, ("entry", *self.first_entry(turn(operator))))

    def first_entry(self, table):
        return min((row, column) for row, entries in enumerate(table) for column, entry in enumerate(entries) if entry)

    def test_12_4_factors_of_flat_ones(self):
        for prime in PRIMES:
            for many in range(1, min(4, prime) + 1):
                self.assertIs(is_flat(Operator.slopes(prime, many)), True)
                self.assertEqual(flat_paper(Operator.slopes(prime, many)), ("flat", Operator.slopes(prime, prime - many)))
            if prime < 4:
                self.assertIs(is_flat(Operator.slopes(prime, prime + 1)), False)
            first = self.source.nonzero(prime, 2, 0)
            second = first * Function.letter(prime)
            line, whole = vanisher((first,)), vanisher((first, second))
            other = right_division(whole, line)[0]
            self.assertEqual(other * line, whole)
            self.assertEqual((is_flat(whole), is_flat(other), is_flat(line)), (True, True, True))

    def test_degree_4_of_flat_operators_modulo_2_and_3(self):
        """The first row of the turn has a function other than 0 wherever the turn is not 0."""
        for prime in (2, 3):
            paper = flat_paper(Operator.slopes(prime, 4))
            self.assertEqual(paper, ("entry", 0, prime))
            self.assertEqual(turn(Operator.slopes(prime, 4))[0][prime], one_of(prime))


class RanksTest(Samples):
    def test_ranks(self):
        for prime in PRIMES:
            for _ in range(6):
                operator = self.some(prime, 1, 2) * self.line(prime) if self.source.number(0, 2) else self.some(prime)
                ranks = turn_ranks(operator)
                self.assertEqual(ranks, power_ranks(turn(operator)))
                self.assertEqual(ranks[0], operator.degree - made_number(operator))
                self.assertIs(ranks == (operator.degree,), bool(determinant(turn(operator))))

    def test_powers_that_are_0(self):
        for prime in PRIMES:
            seen = {turn_ranks(self.line(prime) * self.line(prime)) for _ in range(12)}
            self.assertTrue(seen <= {(0,), (1, 0)})
            self.assertIn((1, 0), seen)
        self.assertEqual(turn_ranks(Operator.slopes(2, 2)), (0,))
        self.assertEqual(turn_ranks(Operator.slopes(2, 3)), (1, 0))
        self.assertEqual(turn_ranks(Operator.slopes(2, 4)), (2, 0))
        self.assertEqual(turn_ranks(Operator.slopes(3, 4)), (1, 0))
        self.assertEqual(turn_ranks(LOGS * LOGS), power_ranks(turn(LOGS * LOGS)))

    def test_long_chains_of_ranks(self):
        for prime in PRIMES:
            for _ in range(4):
                operator = self.line(prime) * self.line(prime) * self.line(prime)
                self.assertEqual(turn_ranks(operator), power_ranks(turn(operator)))
            slope = Operator.slopes(prime, 2)
            self.assertEqual(turn_ranks(slope * self.line(prime) * self.line(prime))[-1], 0)

    def test_12_5_tilted_and_turned_over(self):
        for prime in PRIMES:
            for _ in range(4):
                operator, function = self.some(prime, 1, 2) * self.line(prime), self.function(prime)
                due = function ** prime + function.slope(times=prime - 1)
                moved = table_plus(turn(operator), scaled(idle_table(prime, operator.degree), -due))
                self.assertEqual(power_ranks(turn(tilted(operator, function))), power_ranks(moved))
                self.assertEqual(turn_ranks(turned_over(operator)), turn_ranks(operator))


    def test_12_5_alike(self):
        """Behind a least common multiple A L = B U, with 1 as the right common one of both, B is alike to L."""
        for prime in PRIMES:
            for _ in range(4):
                one = self.line(prime) * self.line(prime)
                other = Operator.factor(self.source.function(prime, 1, 0))
                if right_common(one, other).degree == 0:
                    alike = left_multiple(one, other)[2]
                    if max(max(len(entry.top), len(entry.bottom)) for entry in alike) < 25:
                        self.assertEqual(turn_ranks(alike), turn_ranks(one))


class SayingsTest(unittest.TestCase):
    def test_12_6(self):
        table = turn(LOGS)
        self.assertEqual(table_product(table, table), ((NO, NO), (NO, NO)))
        self.assertEqual((table_rank(table), is_flat(LOGS)), (1, False))
        line = Operator(3, (ONE // X3, ONE))
        self.assertEqual((is_flat(line), is_flat(D3), line * D3 == LOGS), (True, True, True))
        self.assertEqual(LOGS(ONE), NO)
        self.assertTrue(table[0][1].slope())
        self.assertEqual(turn_ranks(BAR), (2,))


if __name__ == "__main__":
    unittest.main()
