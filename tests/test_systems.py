"""[19.4] to [19.7]: systems."""

import unittest

from slopewords.errors import InvalidOperation, InvalidTable, TooMany
from slopewords.func.functions import Function
from slopewords.kin.systems import is_system_paper, system_base, system_paper, system_turn, table_of_operator
from slopewords.kin.telling import operator_of_row, row_steps
from slopewords.line.tables import echelon, idle_table, own_poly, table_kernel, table_plus, table_product, table_rank
from slopewords.line.tables import table_slope, undone_table
from slopewords.made.rows import made_base
from slopewords.oper.operators import Operator
from slopewords.turn.roots import roots
from slopewords.turn.turns import turn
from tests.support import BAR, D3, EMPTY3, KINDS, LOGS, NO, ONE, PRIMES, X2, X3, Source, check_error, check_refusals
from tests.support import joined, longest, operator_kind, parts_row, table_kind, value_kind, wrong_tables

NONE2 = Function.number(2, 0)
SYSTEMS = (system_base, system_turn, system_paper)


def zero(prime):
    return Function.number(prime, 0)


def one_of(prime):
    return Function.number(prime, 1)


def zeros(prime, size):
    return ((zero(prime),) * size,) * size


def times_column(table, column):
    """The product of a table and a column."""
    return tuple(row[0] for row in table_product(table, tuple((entry,) for entry in column)))


def slow_turn(table):
    """T(p), by its rule."""
    total = idle_table(table[0][0].prime, len(table))
    for _ in range(table[0][0].prime):
        total = table_plus(table_slope(total), table_product(total, table))
    return total


def slow_base(table):
    """The columns, as the kernel of the table that tells the steps of all x ** k at each entry."""
    prime, size = table[0][0].prime, len(table)
    columns = []
    for place in range(size):
        for power in range(prime):
            column = [zero(prime)] * size
            column[place] = Function(prime, (0,) * power + (1,), (1,))
            moved = times_column(table, column)
            columns.append(parts_row([entry.slope() - further for entry, further in zip(column, moved)]))
    rows = table_kernel(tuple(zip(*columns)))
    return tuple(joined(prime, row) for row in rows)


def rows_of_row(table, row):
    """r0, .., rn."""
    rows = [tuple(row)]
    for _ in table:
        moved = table_product((rows[-1],), table)[0]
        rows.append(tuple(entry.slope() + further for entry, further in zip(rows[-1], moved)))
    return rows


class Samples(unittest.TestCase):
    def setUp(self):
        self.source = Source(193)

    def gauged(self, table):
        """The system of the columns times a table with an inverse."""
        prime, size = table[0][0].prime, len(table)
        while True:
            by = self.source.table(prime, size, size)
            undone = undone_table(by)
            if undone is not None:
                return table_product(table_plus(table_slope(by), table_product(by, table)), undone)

    def sum_of(self, functions):
        """The system with functions on its diagonal."""
        return tuple(tuple(function if row == column else zero(function.prime) for column in range(len(functions)))
                     for row, function in enumerate(functions))

    def systems(self, prime):
        """Drawn systems, flat ones, sums of lines, those of operators, of one to four rows."""
        found = []
        for size in (1, 2, 3, 4):
            found += [self.source.table(prime, size, size), zeros(prime, size), self.gauged(zeros(prime, size))]
            function = self.source.function(prime, 2, 1)
            found.append(self.sum_of([function] * size))
            found.append(self.gauged(self.sum_of([function] * (size - 1) + [zero(prime)])))
            found.append(table_of_operator(self.source.operator(prime, size)))
        return [table for table in found if self.is_short(table)]

    def is_short(self, table):
        return max(max(len(entry.top), len(entry.bottom)) for row in table for entry in row) <= 25


class KindsTest(Samples):
    def test_refusals(self):
        table = table_kind(((X3,),))
        table.bad = table.bad + [((X3, X3),), ((X3,), (X3,)), zeros(3, 5), ((X3,) * 4,) * 3]
        for call in SYSTEMS:
            check_refusals(self, call, [table])
        check_refusals(self, is_system_paper, [table, value_kind(None)])
        check_refusals(self, table_of_operator, [operator_kind(LOGS)])
        self.assertTrue(all(value in table.bad for value in wrong_tables()))

    def test_sizes(self):
        for prime in PRIMES:
            one, letter = one_of(prime), Function.letter(prime)
            for entry in (letter ** 20 * letter ** 4, one // (letter ** 20 * letter ** 4)):
                for call in SYSTEMS:
                    call(((entry,),))
                is_system_paper(((entry,),), None)
            for entry in (letter ** 20 * letter ** 5, one // (letter ** 20 * letter ** 5)):
                for table in (((entry,),), ((one, one), (one, entry))):
                    for call in SYSTEMS:
                        self.assertEqual(check_error(self, TooMany, call, [table], {}).limit, 24)
                    self.assertEqual(check_error(self, TooMany, is_system_paper, [table, None], {}).limit, 24)
                check_error(self, InvalidTable, system_turn, [((entry, entry),)], {})
                table_of_operator(Operator(prime, (entry, one)))
            for call in SYSTEMS:
                call(zeros(prime, 4))
                check_error(self, InvalidTable, call, [zeros(prime, 5)], {})
            self.assertEqual(len(table_of_operator(Operator.slopes(prime, 4))), 4)
            self.assertEqual(check_error(self, TooMany, table_of_operator, [Operator.slopes(prime, 5)], {}).limit, 4)
        for low in (EMPTY3, Operator.times(X3)):
            check_error(self, InvalidOperation, table_of_operator, [low], {})

    def test_judged_values(self):
        table = table_of_operator(LOGS)
        right = ("row", (ONE, NO), LOGS)
        near = KINDS + [
            ("row",), ("row", (ONE, NO)), ("row", (ONE,), LOGS), ("row", (ONE, NO, NO), LOGS), ["row", (ONE, NO), LOGS],
            ("row", [ONE, NO], LOGS), ("row", (ONE, NO), LOGS.led(X3)), ("row", (ONE, NO), LOGS + D3), ("row", None, LOGS),
            ("row", (ONE, NO), None), ("row", (X2, NONE2), LOGS), ("row", (NO, NO), LOGS), ("row", (NO, ONE), LOGS),
            ("Row", *right[1:]), (*right, 1), ("row", (ONE, None), LOGS), ("row", (ONE, NO), D3), ("row", (ONE, NO), EMPTY3),
            ("piece",), ("piece", NO), ("piece", NO, 1), ("piece", NO, 2), ("piece", NO, 0), ("piece", None, 4)]
        for value in near:
            self.assertIs(is_system_paper(table, value), False)
            self.assertIs(is_system_paper(zeros(2, 3), value), False)
        self.assertIs(is_system_paper(table, right), True)
        for value in (("piece", NONE2, True), ("piece", NONE2, 2), ("piece", NONE2, 4), ("piece", X2, 3), ["piece", NONE2, 3],
                      ("piece", NO, 3), ("piece", 0, 3), ("piece", NONE2, None), ("piece", NONE2, 3, 3),
                      ("row", (NONE2,) * 3, Operator.slopes(2, 3))):
            self.assertIs(is_system_paper(zeros(2, 3), value), False)
        self.assertIs(is_system_paper(zeros(2, 3), ("piece", NONE2, 3)), True)


class SystemsTest(Samples):
    def test_19_4_turns(self):
        for prime in PRIMES:
            for table in self.systems(prime):
                self.assertEqual(system_turn(table), slow_turn(table))

    def test_19_4_bases(self):
        for prime in PRIMES:
            for table in self.systems(prime):
                base = system_base(table)
                self.assertEqual(len(base), len(table) - table_rank(system_turn(table)))
                for column in base:
                    self.assertEqual(tuple(entry.slope() for entry in column), times_column(table, column))
                if base:
                    rows = tuple(parts_row(column) for column in base)
                    self.assertEqual(echelon(rows), rows)
                if prime * len(table) <= 12:
                    self.assertEqual(base, slow_base(table))

    def test_flat_systems(self):
        for prime in PRIMES:
            for size in (1, 2, 3, 4):
                base = system_base(zeros(prime, size))
                self.assertEqual(base, tuple(tuple(one_of(prime) if place == row else zero(prime) for place in range(size))
                                             for row in range(size)))
                table = self.gauged(zeros(prime, size))
                if self.is_short(table):
                    self.assertEqual(len(system_base(table)), size)

    def test_singular_at_all_numbers(self):
        """Poles at each number from 0 to p - 1."""
        for prime in PRIMES:
            letter, bottom = Function.letter(prime), one_of(prime)
            for number in range(prime):
                bottom = bottom * (letter + Function.number(prime, number))
            made = letter * bottom ** (prime - 1) + bottom
            line = made.slope() // made
            for table in (((line,),), self.sum_of([line, -line]), ((line, one_of(prime) // bottom), (zero(prime), line))):
                if self.is_short(table):
                    self.assertEqual(system_base(table), slow_base(table))

    def test_19_5_operators(self):
        for prime in PRIMES:
            for degree in (1, 2, 3, 4):
                operator = self.source.operator(prime, degree)
                table = table_of_operator(operator)
                self.assertEqual(table[-1], tuple(-entry // operator.head for entry in operator.entries[:-1]))
                for row in range(degree - 1):
                    self.assertEqual(table[row], tuple(Function.number(prime, int(column == row + 1))
                                                       for column in range(degree)))
                if self.is_short(table):
                    self.assertEqual(system_turn(table), turn(operator))
                    made = made_base(operator)
                    base = system_base(table)
                    self.assertEqual(len(base), len(made))
                    for column in base:
                        self.assertFalse(operator(column[0]))
                        self.assertEqual(column, tuple(column[0].slope(times=many) for many in range(degree)))
        self.assertEqual(table_of_operator(LOGS), ((NO, ONE), (NO, -ONE // X3)))


class PapersTest(Samples):
    def check_paper(self, table, paper):
        prime = table[0][0].prime
        self.assertIs(is_system_paper(table, paper), True)
        if paper[0] == "piece":
            root, many = paper[1:]
            idle = idle_table(prime, len(table))
            scaled = tuple(tuple(root.spread() * entry for entry in row) for row in idle)
            self.assertEqual(table_rank(table_plus(system_turn(table), scaled, times=-1)), len(table) - many)
            self.assertGreater(many, prime)
            for wrong in ((root, many - 1), (root, many + 1), (root + one_of(prime), many), (root, -many)):
                self.assertIs(is_system_paper(table, ("piece", *wrong)), False)
            return
        rows = rows_of_row(table, paper[1])
        self.assertEqual(table_rank(tuple(rows[:-1])), len(table))
        self.assertEqual((paper[2].degree, paper[2].head), (len(table), one_of(prime)))
        for place in range(len(table)):
            total = zero(prime)
            for entry, row in zip(paper[2].entries, rows):
                total = total + entry * row[place]
            self.assertFalse(total)
        for column in system_base(table):
            told = zero(prime)
            for entry, further in zip(paper[1], column):
                told = told + entry * further
            self.assertFalse(paper[2](told))
        letter = Function.letter(prime)
        by = ("row", tuple(letter.spread() * entry for entry in paper[1]), paper[2])
        self.assertIs(is_system_paper(table, by), True)
        for wrong in (paper[2] + Operator.times(letter), paper[2].led(letter), Operator.slopes(prime, len(table) - 1)):
            self.assertIs(is_system_paper(table, ("row", paper[1], wrong)), False)

    def test_19_6_papers(self):
        seen = set()
        for prime in PRIMES:
            for table in self.systems(prime):
                paper = system_paper(table)
                seen.add((prime, paper[0]))
                self.check_paper(table, paper)
                self.assertEqual(paper[0] == "piece", self.is_barred(table))
        self.assertEqual(seen, {(prime, "row") for prime in PRIMES} | {(2, "piece"), (3, "piece")})

    def is_barred(self, table):
        """Whether some root of the own polynomial of the turn lowers the rank by more than p."""
        prime, size = table[0][0].prime, len(table)
        told = system_turn(table)
        norm = tuple(entry.gathered() for entry in own_poly(told))
        try:
            found = roots(norm)
        except TooMany:
            return False
        idle = idle_table(prime, size)
        for root, _ in found:
            scaled = tuple(tuple(root.spread() * entry for entry in row) for row in idle)
            if size - table_rank(table_plus(told, scaled, times=-1)) > prime:
                return True
        return False

    def test_19_6_barred(self):
        for prime, size in ((2, 3), (2, 4), (3, 4)):
            for root in (zero(prime), Function.letter(prime), one_of(prime) // Function.letter(prime)):
                table = self.sum_of([root] * size)
                paper = system_paper(table)
                self.assertEqual((paper[0], paper[2]), ("piece", size))
                gauged = self.gauged(table)
                if self.is_short(gauged):
                    self.assertEqual(system_paper(gauged), paper)
        table = self.sum_of([zero(2)] * 3 + [X2])
        self.assertEqual(system_paper(table), ("piece", NONE2, 3))
        self.check_paper(table, system_paper(table))

    def test_just_enough(self):
        """As many equal lines as the prime tells still have a telling row."""
        for prime in PRIMES:
            for size in range(1, min(prime, 4) + 1):
                self.assertEqual(system_paper(zeros(prime, size))[0], "row")
                function = self.source.function(prime, 2, 1)
                self.check_paper(self.sum_of([function] * size), system_paper(self.sum_of([function] * size)))
        for functions in ([NONE2, NONE2, X2, X2], [NONE2, NONE2, X2], [NONE2, X2, X2 + X2, X2 * X2]):
            table = self.sum_of(functions)
            self.assertEqual(system_paper(table)[0], "row")
            self.check_paper(table, system_paper(table))
        for _ in range(20):
            functions = [self.source.choice([NONE2, X2, Function.number(2, 1) // X2]) for _ in range(4)]
            table = self.gauged(self.sum_of(functions))
            if self.is_short(table):
                self.check_paper(table, system_paper(table))

    def test_rows_of_others(self):
        """Each telling row is taken, with functions of any degrees."""
        for prime in PRIMES:
            long = (Function.letter(prime) ** 20).spread() + Function.letter(prime)
            table = ((Function.letter(prime),),)
            operator = Operator.factor(table[0][0] + long.slope() // long)
            self.assertIs(is_system_paper(table, ("row", (long,), operator)), True)
            self.assertIs(is_system_paper(table, ("row", (long,), Operator.factor(table[0][0]))), False)


class ShortPapersTest(Samples):
    """The polynomials of a telling row and of its operator have degrees of at most 400 [0.6]."""

    def drawn(self, prime, degree):
        """A function with a top and a bottom of a degree."""
        return Function(prime, self.source.poly(prime, degree), self.source.poly(prime, degree))

    def table(self, prime, pattern, degree):
        """A table with drawn functions at the stars of a pattern."""
        return tuple(tuple(self.drawn(prime, degree) if sign == "*" else zero(prime) for sign in row) for row in pattern)

    def told(self, prime, degree):
        """The table of the issue that asked for the bound: its row (0, 0, 0, 1) has a far shorter operator than others."""
        def entry(first, second):
            top = (first % prime,) + (0,) * (degree - 1) + (1,)
            return Function(prime, top, (second % prime, 1) + (0,) * (degree - 2) + (1,))
        none = zero(prime)
        return ((entry(0, 1), entry(6, 6), entry(5, 5), entry(4, 4)), (entry(3, 3), none, none, none),
                (none, entry(2, 2), none, none), (none, none, entry(1, 1), none))

    def blocks(self, one, other):
        """The system of two systems with two rows each, side by side."""
        none = (zero(one[0][0].prime),) * 2
        return tuple((*row, *none) for row in one) + tuple((*none, *row) for row in other)

    def moved(self, table, rows):
        """The system whose columns, multiplied by a table of rows, fulfil another one."""
        undone = undone_table(rows)
        found = table_product(undone, table_plus(table_product(tuple(table), rows), table_slope(rows), times=-1))
        self.assertTrue(self.is_short(found))
        return found

    def check_short(self, table):
        """There is a right paper with a telling row, within the bound."""
        paper = system_paper(table)
        self.assertEqual(paper[0], "row")
        self.assertIs(is_system_paper(table, paper), True)
        functions = [*paper[1], *paper[2]]
        self.assertLessEqual(max(max(len(one.top), len(one.bottom)) - 1 for one in functions), 400)

    def test_one_short_row(self):
        """The rows and columns of the told table are exchanged alike: another row has the short operator."""
        for prime, degree, order in ((7, 24, (1, 3, 0, 2)), (5, 24, (3, 0, 2, 1)), (3, 24, (2, 0, 3, 1)),
                                     (2, 24, (0, 2, 3, 1))):
            told = self.told(prime, degree)
            self.check_short(tuple(tuple(told[row][column] for column in order) for row in order))
        self.check_short(tuple(zip(*self.told(7, 24))))

    def test_hidden_short_rows(self):
        """The row (0, 0, 0, 1) has a short operator until it becomes (0, 0, x, 1)."""
        for prime in PRIMES:
            table = [list(row) for row in self.table(prime, ("**..", "*...", "....", "...."), 24)]
            for row, column, degree in ((0, 2, 12), (0, 3, 12), (2, 1, 24), (3, 2, 24)):
                bottom = self.source.poly(prime, degree)
                table[row][column] = Function(prime, self.source.poly(prime, degree - 2), bottom)
            rows = [list(row) for row in idle_table(prime, 4)]
            rows[3][2] = Function.letter(prime)
            self.check_short(self.moved([tuple(row) for row in table], tuple(tuple(row) for row in rows)))

    def test_only_multiples(self):
        """No row with one 1 is short enough, but a multiple of one is."""
        for prime, pattern, degree in ((7, ("***",) * 3, 22), (5, ("***",) * 3, 22), (3, ("***",) * 3, 23),
                                       (7, ("****",) * 4, 9), (5, ("****", "**..", ".**.", "..**"), 22)):
            table = self.table(prime, pattern, degree)
            for row in idle_table(prime, len(pattern)):
                self.assertGreater(longest([operator_of_row(row_steps(table, row))]), 400)
            self.check_short(table)

    def test_undone_multiples(self):
        """A short row is hidden by a function that multiplies it, at the top or at the bottom."""
        for prime in (7, 3):
            by = self.source.poly(prime, 12)
            for function in (Function(prime, by, (1,)), Function(prime, (1,), by)):
                table = self.table(prime, ("****", "*...", ".*..", "..*."), 12)
                self.check_short(self.moved(table, self.sum_of([one_of(prime)] * 3 + [function])))

    def test_sums(self):
        """Telling rows need several entries; blocks that are equal need multiples by x."""
        for prime in PRIMES:
            block = self.table(prime, ("**", "*."), 16)
            other = self.table(prime, ("**", "*."), 14)
            self.check_short(self.blocks(block, block))
            self.check_short(self.blocks(block, other))
            self.check_short(self.sum_of([self.drawn(prime, 24) for _ in range(4)]))
        full = self.table(7, ("**", "**"), 22)
        self.check_short(self.blocks(full, full))

    def test_no_short_row(self):
        """Where no short row is found, the paper is a right one all the same."""
        table = self.table(2, ("****",) * 4, 16)
        paper = system_paper(table)
        self.assertEqual(paper[0], "row")
        self.assertIs(is_system_paper(table, paper), True)

    def test_judged_degrees(self):
        """All telling rows are right, with operators of any degrees."""
        table = self.told(7, 24)
        for place, degree in ((0, 575), (3, 288)):
            row = tuple(Function.number(7, int(place == index)) for index in range(4))
            operator = operator_of_row(row_steps(table, row))
            self.assertEqual(longest([operator]), degree)
            self.assertIs(is_system_paper(table, ("row", row, operator)), True)
            self.assertIs(is_system_paper(table, ("row", row, operator + Operator.times(one_of(7)))), False)


class SayingsTest(unittest.TestCase):
    def test_19_7(self):
        table = zeros(2, 3)
        self.assertEqual(system_paper(table), ("piece", NONE2, 3))
        self.assertEqual(len(system_base(table)), 3)
        for operator in (Operator.slopes(2, 3), BAR * Operator.slopes(2, 1)):
            self.assertLess(len(system_base(table_of_operator(operator))), 3)
        self.assertNotEqual(D3, EMPTY3)


if __name__ == "__main__":
    unittest.main()
