"""[5.1] to [5.8] and [0.12]: tables of functions."""

import unittest

from slopewords.errors import InvalidOperation
from slopewords.func.functions import Function
from slopewords.line.tables import MOST_ROWS, determinant, echelon, idle_table, is_table, own_poly, power_ranks
from slopewords.line.tables import solved, table_kernel, table_plus, table_product, table_rank, table_slope
from slopewords.line.tables import undone_table
from tests.support import KINDS, NO, ONE, PRIMES, X2, X3, Source, check_error, check_refusals, column_kind
from tests.support import number_kind, prime_kind, table_kind, wrong_tables

TABLE = ((X3, ONE), (X3 * X3, X3))


def zero(prime):
    return Function.number(prime, 0)


def slow_product(one, other):
    """The product of matrices, entry by entry."""
    rows = []
    for row in one:
        found = []
        for column in zip(*other):
            total = zero(row[0].prime)
            for entry, further in zip(row, column):
                total = total + entry * further
            found.append(total)
        rows.append(tuple(found))
    return tuple(rows)


def slow_determinant(table):
    """The determinant, by its first row."""
    if len(table) == 1:
        return table[0][0]
    total = zero(table[0][0].prime)
    for place, entry in enumerate(table[0]):
        part = entry * slow_determinant([row[:place] + row[place + 1:] for row in table[1:]])
        total = total - part if place % 2 else total + part
    return total


def leads_of(rows):
    """The indices of the first entries other than 0."""
    return [[place for place, entry in enumerate(row) if entry][0] for row in rows]


def as_column(functions):
    return tuple((function,) for function in functions)


def as_row(table):
    return tuple(row[0] for row in table)


class Samples(unittest.TestCase):
    def setUp(self):
        self.source = Source(51)

    def some(self, prime, rows=None, columns=None):
        """A table, its last row often a sum of multiples of the others."""
        rows, columns = rows or self.source.number(1, 4), columns or self.source.number(1, 4)
        table = self.source.table(prime, rows, columns)
        if rows > 1 and self.source.number(0, 2):
            first, second = self.source.function(prime, 1, 1), self.source.function(prime, 1, 1)
            last = tuple(first * entry + second * other for entry, other in zip(table[0], table[rows // 2 - 1]))
            table = table[:-1] + (last,)
        return table

    def square(self, prime, size=None):
        size = size or self.source.number(1, 4)
        return self.some(prime, size, size)

    def check_echelon(self, rows):
        leads = leads_of(rows)
        self.assertEqual(leads, sorted(set(leads)))
        for number, lead in enumerate(leads):
            column = [row[lead] for row in rows]
            self.assertEqual(column.pop(number), Function.number(rows[0][0].prime, 1))
            self.assertFalse(any(column))


class KindsTest(Samples):
    def test_constant(self):
        self.assertEqual(MOST_ROWS, 28)

    def test_0_12_is_table(self):
        for prime in PRIMES:
            for rows, columns in ((1, 1), (1, 28), (28, 1), (3, 2), (28, 28)):
                table = ((Function.letter(prime),) * columns,) * rows
                self.assertIs(is_table(table), True)
        for value in wrong_tables():
            self.assertIs(is_table(value), False)
        for value in KINDS:
            self.assertIs(is_table(value), False)

    def test_refusals(self):
        table = table_kind(TABLE)
        check_refusals(self, idle_table, [prime_kind(), number_kind(2, 1, 28)])
        check_refusals(self, table_product, [table, table])
        check_refusals(self, table_plus, [table, table], "times", number_kind(2))
        check_refusals(self, solved, [table, column_kind((ONE, ONE))])
        for call in (table_slope, echelon, table_rank, table_kernel, determinant, undone_table, own_poly, power_ranks):
            check_refusals(self, call, [table])

    def test_unlike_primes_and_shapes(self):
        two = ((X2, X2), (X2, X2))
        for call in (table_product, table_plus):
            check_error(self, InvalidOperation, call, [TABLE, two], {})
        check_error(self, InvalidOperation, solved, [TABLE, (X2, X2)], {})
        check_error(self, InvalidOperation, table_product, [TABLE, TABLE[:1]], {})
        check_error(self, InvalidOperation, table_plus, [TABLE, TABLE[:1]], {})
        check_error(self, InvalidOperation, table_plus, [TABLE, ((ONE,), (ONE,))], {})
        check_error(self, number_kind(1).error, table_plus, [TABLE, two], {"times": True})
        check_error(self, InvalidOperation, solved, [TABLE, (ONE,)], {})
        check_error(self, InvalidOperation, solved, [TABLE, (ONE,) * 3], {})
        for call in (determinant, undone_table, own_poly, power_ranks):
            for table in (TABLE[:1], ((ONE,), (ONE,)), ((ONE,) * 28,) * 27):
                check_error(self, InvalidOperation, call, [table], {})


class ProductsTest(Samples):
    def test_5_1_products(self):
        for prime in PRIMES:
            for _ in range(12):
                rows, middle, columns = [self.source.number(1, 4) for _ in range(3)]
                one, other = self.some(prime, rows, middle), self.some(prime, middle, columns)
                self.assertEqual(table_product(one, other), slow_product(one, other))
                self.assertEqual(table_product(idle_table(prime, rows), one), one)
                self.assertEqual(table_product(one, idle_table(prime, middle)), one)
                self.assertEqual(table_slope(table_product(one, other)), table_plus(
                    table_product(table_slope(one), other), table_product(one, table_slope(other))))

    def test_5_1_idle(self):
        for prime in PRIMES:
            one, nothing = Function.number(prime, 1), zero(prime)
            self.assertEqual(idle_table(prime, 1), ((one,),))
            self.assertEqual(idle_table(prime, 2), ((one, nothing), (nothing, one)))
            most = idle_table(prime, 28)
            self.assertEqual([len(most)] + [len(row) for row in most], [28] * 29)
            self.assertEqual(table_product(most, most), most)

    def test_5_1_sums(self):
        for prime in PRIMES:
            for times in (-3, -1, 0, 1, 2, 10 ** 59):
                one, other = self.some(prime, 2, 3), self.some(prime, 2, 3)
                factor = Function.number(prime, times)
                due = tuple(tuple(entry + factor * further for entry, further in zip(row, further_row))
                            for row, further_row in zip(one, other))
                self.assertEqual(table_plus(one, other, times=times), due)
            self.assertEqual(table_plus(one, other), table_plus(one, other, times=1))

    def test_5_1_slope(self):
        table = self.some(5, 2, 3)
        self.assertEqual(table_slope(table), tuple(tuple(entry.slope() for entry in row) for row in table))


class EchelonsTest(Samples):
    def test_5_2_echelon(self):
        for prime in PRIMES:
            for _ in range(25):
                table = self.some(prime)
                rows = echelon(table)
                self.assertEqual(type(rows), tuple)
                self.check_echelon(rows)
                self.assertEqual(len(rows), table_rank(table))
                if rows:
                    # Rows of the table are sums of multiples of the echelon's, told by the entries at the leads.
                    parts = tuple(tuple(row[lead] for lead in leads_of(rows)) for row in table)
                    self.assertEqual(slow_product(parts, rows), table)
                    self.assertEqual(echelon(rows), rows)
                    self.assertEqual(echelon(table + rows), rows)
                    self.assertEqual(echelon(table[::-1]), rows)
                else:
                    self.assertFalse(any(entry for row in table for entry in row))

    def test_5_2_nothing(self):
        for prime in PRIMES:
            nothing = ((zero(prime),) * 3,) * 2
            self.assertEqual((echelon(nothing), table_rank(nothing)), ((), 0))
            self.assertEqual(table_kernel(nothing), idle_table(prime, 3))
            self.assertEqual(solved(nothing, (zero(prime),) * 2), (zero(prime),) * 3)

    def test_5_3_kernel(self):
        for prime in PRIMES:
            for _ in range(25):
                table = self.some(prime)
                kernel = table_kernel(table)
                self.check_echelon(kernel)
                self.assertEqual(len(kernel), len(table[0]) - table_rank(table))
                for row in kernel:
                    self.assertFalse(any(as_row(slow_product(table, as_column(row)))))
        self.assertEqual(table_kernel(idle_table(3, 28)), ())

    def test_5_4_solved(self):
        for prime in PRIMES:
            for _ in range(25):
                table = self.some(prime)
                made = as_row(slow_product(table, as_column(
                    self.source.function(prime, 2, 1) for _ in range(len(table[0])))))
                self.check_solution(table, made, solved(table, made))
                other = tuple(self.source.function(prime, 2, 1) for _ in range(len(table)))
                solution = solved(table, other)
                wider = tuple(row + (entry,) for row, entry in zip(table, other))
                self.assertEqual(solution is None, table_rank(wider) > table_rank(table))
                if solution is not None:
                    self.check_solution(table, other, solution)

    def check_solution(self, table, column, solution):
        self.assertEqual(as_row(slow_product(table, as_column(solution))), column)
        leads = leads_of(echelon(table))
        self.assertFalse(any(entry for place, entry in enumerate(solution) if place not in leads))


class SquaresTest(Samples):
    def test_5_5_determinant(self):
        for prime in PRIMES:
            for _ in range(15):
                table = self.square(prime)
                other = self.square(prime, len(table))
                worth = determinant(table)
                self.assertEqual(worth, slow_determinant(table))
                self.assertEqual(determinant(slow_product(table, other)), worth * determinant(other))
                self.assertEqual(bool(worth), table_rank(table) == len(table))
                undone = undone_table(table)
                if worth:
                    idle = idle_table(prime, len(table))
                    self.assertEqual((slow_product(table, undone), slow_product(undone, table)), (idle, idle))
                else:
                    self.assertIsNone(undone)

    def test_5_5_swaps(self):
        for prime in PRIMES:
            one, nothing = Function.number(prime, 1), zero(prime)
            turned = ((nothing, nothing, one), (one, nothing, nothing), (nothing, one, nothing))
            self.assertEqual((determinant(turned), determinant(turned[::-1])), (one, -one))
            self.assertEqual(undone_table(turned), tuple(zip(*turned)))

    def test_5_6_own_polynomial(self):
        for prime in PRIMES:
            for _ in range(12):
                table = self.square(prime)
                numbers = own_poly(table)
                size = len(table)
                self.assertEqual((len(numbers), numbers[-1]), (size + 1, Function.number(prime, 1)))
                total = ((zero(prime),) * size,) * size
                for number in numbers[::-1]:
                    total = slow_product(total, table)
                    total = tuple(tuple(entry + number if row == column else entry for column, entry in enumerate(line))
                                  for row, line in enumerate(total))
                self.assertFalse(any(entry for row in total for entry in row))
                worth = self.source.function(prime, 2, 1)
                less = tuple(tuple((worth if row == column else zero(prime)) - entry
                                   for column, entry in enumerate(line)) for row, line in enumerate(table))
                value = zero(prime)
                for number in numbers[::-1]:
                    value = value * worth + number
                self.assertEqual(slow_determinant(less), value)

    def test_5_6_ranks_of_powers(self):
        for prime in PRIMES:
            for _ in range(12):
                table = self.square(prime)
                self.assertEqual(power_ranks(table), self.slow_ranks(table))
                upper = tuple(tuple(entry if column > row else zero(prime) for column, entry in enumerate(line))
                              for row, line in enumerate(table))
                self.assertEqual(power_ranks(upper), self.slow_ranks(upper))
                mixed = tuple(tuple(entry if column > row or row == 0 else zero(prime)
                                    for column, entry in enumerate(line)) for row, line in enumerate(table))
                self.assertEqual(power_ranks(mixed), self.slow_ranks(mixed))

    def slow_ranks(self, table):
        ranks, power = [table_rank(table)], table
        while True:
            power = slow_product(power, table)
            if table_rank(power) == ranks[-1]:
                return tuple(ranks)
            ranks.append(table_rank(power))

    def test_one_row(self):
        for prime in PRIMES:
            letter, one = Function.letter(prime), Function.number(prime, 1)
            self.assertEqual((determinant(((letter,),)), undone_table(((letter,),))), (letter, ((one // letter,),)))
            self.assertEqual(own_poly(((letter,),)), (-letter, one))
            self.assertEqual((power_ranks(((letter,),)), power_ranks(((zero(prime),),))), ((1,), (0,)))
            self.assertEqual(undone_table(((zero(prime),),)), None)

    def test_28_rows(self):
        for prime in PRIMES:
            letter, one, nothing = Function.letter(prime), Function.number(prime, 1), zero(prime)
            chain = tuple(tuple(one if column == row + 1 else nothing for column in range(28)) for row in range(28))
            self.assertEqual(power_ranks(chain), tuple(range(27, -1, -1)))
            self.assertEqual((table_rank(chain), determinant(chain), undone_table(chain)), (27, nothing, None))
            self.assertEqual(own_poly(chain), (nothing,) * 28 + (one,))
            self.assertEqual(table_kernel(chain), ((one,) + (nothing,) * 27,))
            full = tuple(tuple(letter if row == column else one if column > row else nothing for column in range(28))
                         for row in range(28))
            self.assertEqual(determinant(full), letter ** 20 * letter ** 8)
            idle = idle_table(prime, 28)
            self.assertEqual(table_product(full, undone_table(full)), idle)
            self.assertEqual(power_ranks(full), (28,))

    def test_28_dense_rows(self):
        table = tuple(tuple(Function(7, self.source.poly(7, self.source.number(-1, 1)), (1,)) for _ in range(28))
                      for _ in range(28))
        numbers = own_poly(table)
        self.assertEqual(numbers[0], determinant(table))
        trace = zero(7)
        for place in range(28):
            trace = trace + table[place][place]
        self.assertEqual(numbers[-2], -trace)
        self.assertEqual(table_product(table, undone_table(table)), idle_table(7, 28))

    def test_5_7_degrees(self):
        for prime in PRIMES:
            for _ in range(6):
                table = self.square(prime, 3)
                most = max(len(poly) - 1 for row in table for entry in row for poly in (entry.top, entry.bottom))
                rank = table_rank(table)
                found = [entry for row in echelon(table) + table_kernel(table) for entry in row]
                for entry in found:
                    self.assertLessEqual(max(len(entry.top), len(entry.bottom)) - 1, 2 * rank * rank * most)
                for entry in own_poly(table):
                    self.assertLessEqual(max(len(entry.top), len(entry.bottom)) - 1, 9 * most)

    def test_5_8_sayings(self):
        first, second = ((ONE, NO), (NO, NO)), ((NO, NO), (NO, ONE))
        self.assertEqual([table_rank(table) for table in (first, second, table_product(first, second))], [1, 1, 0])
        self.assertEqual((determinant(TABLE).slope(), determinant(table_slope(TABLE))), (NO, ONE))
        self.assertEqual((table_rank(TABLE), table_rank(table_slope(TABLE))), (1, 2))


if __name__ == "__main__":
    unittest.main()
