"""Short rows of polynomials, and columns with a told step, as they are met within the package."""

import itertools
import unittest

from slopewords.base.arithmetic import common_divisor
from slopewords.func.functions import Function, short_functions
from slopewords.line.elimination import kernel_columns, reduced_rows, without_content
from slopewords.line.tables import determinant, echelon, table_product, table_rank
from tests.support import PRIMES, Source


def as_table(prime, rows):
    return tuple(tuple(Function(prime, entry, (1,)) for entry in row) for row in rows)


def as_tops(table):
    return [[entry.top for entry in row] for row in table]


class ShortTest(unittest.TestCase):
    def setUp(self):
        self.source = Source(5)

    def drawn(self, prime, rows, columns):
        return tuple(tuple(self.source.function(prime, 3, 2) for _ in range(columns)) for _ in range(rows))

    def minors(self, prime, rows):
        """The determinants of all choices of columns."""
        table = as_table(prime, rows)
        for columns in itertools.combinations(range(len(rows[0])), len(rows)):
            yield determinant(tuple(tuple(row[column] for column in columns) for row in table)).top

    def test_short_rows(self):
        for prime in PRIMES:
            for many, width in ((1, 1), (1, 3), (2, 2), (2, 4), (3, 5)):
                table = echelon((*self.drawn(prime, many, width), (Function.number(prime, 1),) * width))[:many]
                rows = as_tops(short_functions(prime, table))
                self.assertEqual(len(rows), len(table))
                self.assertEqual(table_rank((*table, *as_table(prime, rows))), len(table))
                self.assertEqual(echelon(as_table(prime, rows)), table)
                self.check_short(prime, rows)

    def check_short(self, prime, rows):
        """All rows of polynomials are sums of multiples, and none is shorter: minors tell both."""
        content, longest = (), 0
        for minor in self.minors(prime, rows):
            content = common_divisor(prime, content, minor)
            longest = max(longest, len(minor) - 1)
        self.assertEqual(content, (1,))
        self.assertEqual(sum(max(len(entry) for entry in row) - 1 for row in rows), longest)

    def test_hidden_short_rows(self):
        """The rows of a drawn table of polynomials are found again as far as lengths tell."""
        for prime in PRIMES:
            for _ in range(5):
                table = tuple(tuple(Function(prime, self.source.poly(prime, self.source.number(-1, 2)), (1,))
                                    for _ in range(5)) for _ in range(2))
                if table_rank(table) == 2:
                    rows = as_tops(short_functions(prime, echelon(table)))
                    self.assertLessEqual(max(len(entry) for row in rows for entry in row), 3)

    def test_reduced_rows(self):
        for prime in PRIMES:
            table = tuple(tuple(Function(prime, self.source.poly(prime, 3), (1,)) for _ in range(3)) for _ in range(3))
            if table_rank(table) == 3:
                rows = reduced_rows(prime, as_tops(table))
                self.assertEqual(determinant(as_table(prime, rows)), determinant(table))
                self.assertEqual(sum(max(len(entry) for entry in row) - 1 for row in rows), determinant(table).degree)

    def test_kernels(self):
        for prime in PRIMES:
            for rows, columns in ((1, 1), (1, 3), (2, 2), (2, 4), (3, 3)):
                table = tuple(tuple(Function(prime, self.source.poly(prime, self.source.number(-1, 2)), (1,))
                                    for _ in range(columns)) for _ in range(rows))
                base = kernel_columns(prime, as_tops(table))
                self.assertEqual(len(base), columns - table_rank(table))
                for column in base:
                    made = table_product(table, tuple((Function(prime, entry, (1,)),) for entry in column))
                    self.assertFalse(any(row[0] for row in made))
                    self.assertEqual(without_content(prime, column), column)
                if base:
                    self.assertEqual(table_rank(as_table(prime, base)), len(base))


if __name__ == "__main__":
    unittest.main()
