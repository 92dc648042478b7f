"""What the search for short telling rows is made of: glasses, groups and bases of rows, multiples of rows."""

import itertools
import unittest

from slopewords.base.arithmetic import common_divisor, coprime_parts, has_no_factor, multiply, rest_of
from slopewords.func.functions import Function
from slopewords.func.slopes import log_slope
from slopewords.kin.multiples import best_exponents, least_order, multiple_row, pole_parts, times_in, told_degree
from slopewords.kin.poles import image_rows, is_regular, pole_degree, pole_groups, regular_base, regular_places
from slopewords.kin.poles import short_bases
from slopewords.kin.remainders import FAR, NEAR
from slopewords.kin.shorter import normal_row, rows_to_try
from slopewords.kin.systems import cleared_system
from slopewords.kin.telling import glass_of, improved_row, may_be_short, numbered_row, operator_of_row, row_rank
from slopewords.kin.telling import row_steps, told_rank
from slopewords.line.tables import determinant, table_product, table_rank
from slopewords.oper.changes import tilted
from tests.support import PRIMES, Source, longest


def as_row(prime, row):
    """A row of polynomials as functions."""
    return tuple(Function(prime, entry, (1,)) for entry in row)


def groups_of(table):
    return pole_groups(table[0][0].prime, cleared_system(table), [entry.bottom for row in table for entry in row])


class Drawn(unittest.TestCase):
    def setUp(self):
        self.source = Source(577)

    def table(self, prime, size, degree, *, zeros=0):
        """A table with functions of tops and bottoms of a degree, some of them 0."""
        none = Function.number(prime, 0)
        return tuple(tuple(none if self.source.number(1, 10) <= zeros else self.function(prime, degree)
                           for _ in range(size)) for _ in range(size))

    def function(self, prime, degree):
        return Function(prime, self.source.poly(prime, degree), self.source.poly(prime, degree))

    def row(self, prime, size, degree=2):
        return [self.source.poly(prime, self.source.number(-1, degree)) for _ in range(size)]

    def telling(self, table):
        """A drawn telling row of polynomials."""
        prime, size = table[0][0].prime, len(table)
        while True:
            row = self.row(prime, size)
            if row_rank(prime, cleared_system(table), row) == size:
                return row


class PartsTest(Drawn):
    def test_coprime_parts(self):
        """Parts have no common divisors, and each polynomial is a product of powers of them."""
        for prime in PRIMES:
            for many in (0, 1, 2, 5):
                seeds = [self.source.poly(prime, self.source.number(0, 3)) for _ in range(4)]
                pairs = [(self.source.choice(seeds), self.source.choice(seeds)) for _ in range(many)]
                polys = [multiply(prime, multiply(prime, one, one), other) for one, other in pairs]
                parts = coprime_parts(prime, polys)
                self.assertTrue(all(len(part) > 1 for part in parts))
                for one, other in itertools.combinations(parts, 2):
                    self.assertEqual(common_divisor(prime, one, other), (1,))
                for poly in polys:
                    degrees = [times_in(prime, poly, part) * (len(part) - 1) for part in parts]
                    self.assertEqual(sum(degrees), len(poly) - 1)

    def test_times_in(self):
        for prime in PRIMES:
            for place in ((0, 1), (1, 1)):
                rest = (1, 0, 0, 1) if place == (0, 1) else (0, 1)
                poly = rest if rest_of(prime, rest, place) else (1,)
                for many in range(5):
                    self.assertEqual(times_in(prime, poly, place), many)
                    poly = multiply(prime, poly, place)


class GlassTest(Drawn):
    def test_ranks(self):
        """Ranks that are seen are the ranks, for drawn tables."""
        for prime in PRIMES:
            for size in (1, 2, 3, 4):
                for zeros in (0, 4, 8):
                    table = self.table(prime, size, 2, zeros=zeros)
                    system = cleared_system(table)
                    glass = glass_of((prime, NEAR[prime]), system)
                    for row in [numbered_row(prime, size, number) for number in range(4)] + [self.row(prime, size)]:
                        self.assertEqual(told_rank(prime, system, row, glass), row_rank(prime, system, row))
                        self.assertEqual(told_rank(prime, system, row, None), row_rank(prime, system, row))

    def test_improved_rows(self):
        for prime in PRIMES:
            for size in (2, 3, 4):
                table = self.table(prime, size, 2, zeros=6)
                system = cleared_system(table)
                glass = glass_of((prime, NEAR[prime]), system)
                parts = [[(1,) if place == row else () for place in range(size)] for row in range(size)]
                for row in parts:
                    found, rank = improved_row(prime, system, row, parts, glass)
                    self.assertEqual((found, rank), improved_row(prime, system, row, parts, None))
                    self.assertEqual(rank, row_rank(prime, system, found))
                    self.assertGreaterEqual(rank, row_rank(prime, system, row))
                    self.assertEqual(improved_row(prime, system, row, [], glass), (row, row_rank(prime, system, row)))

    def test_short_operators(self):
        """What is seen of the function ahead of D ** (n - 1) is so."""
        for prime in PRIMES:
            for size in (1, 2, 3, 4):
                table = self.table(prime, size, 2)
                row = self.telling(table)
                entry = operator_of_row(row_steps(table, as_row(prime, row))).entries[size - 1]
                degree = max(len(entry.top), len(entry.bottom)) - 1
                glass = glass_of((prime, FAR[prime]), cleared_system(table))
                self.assertIs(may_be_short(glass, row, 400), True)
                self.assertIs(may_be_short(glass, row, max(degree, 0)), True)
                if degree > 0:
                    self.assertIs(may_be_short(glass, row, degree - 1), False)
                self.assertIs(may_be_short(glass, [() for _ in row], 400), False)


class PolesTest(Drawn):
    def test_groups(self):
        for prime in PRIMES:
            for size in (1, 2, 3, 4):
                table = self.table(prime, size, 4, zeros=3)
                tops, bottom = cleared_system(table)
                groups = groups_of(table)
                self.assertEqual(sorted([-len(level) for level, _ in groups]), [-len(level) for level, _ in groups])
                product = (1,)
                for level, rests in groups:
                    self.assertEqual(common_divisor(prime, product, level), (1,))
                    product = multiply(prime, product, level)
                    self.assertEqual(rests, [[rest_of(prime, top, level) for top in row] for row in tops])
                self.assertEqual(product, bottom)

    def test_regular_rows(self):
        """A row is regular at a group if its product with the table has no common divisor in the bottoms there."""
        for prime in PRIMES:
            table = self.table(prime, 3, 3, zeros=4)
            groups = groups_of(table)
            whole = [[(1,) if place == row else () for place in range(3)] for row in range(3)]
            found = [row for group in groups for row in regular_base(prime, whole, group)]
            for row in [*whole, self.row(prime, 3), *found]:
                moved = table_product((as_row(prime, row),), table)[0]
                due = [all(common_divisor(prime, entry.bottom, level) == (1,) for entry in moved) for level, _ in groups]
                self.assertEqual([is_regular(prime, row, group) for group in groups], due)
                places = tuple(place for place, is_so in enumerate(due) if is_so)
                self.assertEqual(regular_places(prime, [row], groups), places)
                degree = sum(len(level) - 1 for (level, _), is_so in zip(groups, due) if not is_so)
                self.assertEqual(pole_degree(prime, row, groups), degree)

    def gauged(self, prime, rows, degrees):
        """A table whose rows with few poles are told, and these rows: the places of the bottoms lie in some entries."""
        size = len(rows)
        by = tuple(as_row(prime, row) for row in rows)
        none = Function.number(prime, 0)
        table = tuple(tuple(none if degree is None else Function(prime, self.source.poly(prime, 1),
                                                                  self.source.poly(prime, degree))
                            for degree in line) for line in degrees)
        undone = tuple(tuple(self.minor(by, column, row) for column in range(size)) for row in range(size))
        moved = table_product(undone, table_product(table, by))
        slopes = table_product(undone, tuple(tuple(entry.slope() for entry in row) for row in by))
        return tuple(tuple(one - other for one, other in zip(row, further)) for row, further in zip(moved, slopes))

    def minor(self, by, row, column):
        """An entry of the undone table, for a table with the determinant 1."""
        rest = tuple(tuple(entry for place, entry in enumerate(line) if place != column)
                     for index, line in enumerate(by) if index != row)
        found = determinant(rest)
        return found if (row + column) % 2 == 0 else -found

    def test_hidden_rows(self):
        """Rows that have few poles are found when another table of columns is taken."""
        one = (1,)
        for prime in PRIMES:
            rows = [[one, (), ()], [(0, 1), one, ()], [(1, 1), (), one]]
            table = self.gauged(prime, rows, [[20, 20, 20], [20, None, None], [None, 20, None]])
            groups = groups_of(table)
            tried = [row for row, _ in rows_to_try(prime, groups, 3)]
            for row in rows:
                self.assertIn(normal_row(prime, row), tried)
            for base in short_bases(prime, groups, 3):
                self.assertEqual(table_rank(tuple(as_row(prime, row) for row in base)), len(base))

    def test_images(self):
        """A table with poles in one column has all images in one row."""
        one = (1,)
        for prime in PRIMES:
            rows = [[one, (), ()], [(), one, ()], [(0, 1), (1, 1), one]]
            table = self.gauged(prime, rows, [[None, None, 20], [None, None, 20], [None, None, 20]])
            found = [normal_row(prime, row) for row in image_rows(prime, groups_of(table))]
            self.assertIn(normal_row(prime, rows[2]), found)

    def test_rows_to_try(self):
        for prime in PRIMES:
            for size in (2, 3, 4):
                groups = groups_of(self.table(prime, size, 6))
                tried = [row for row, _ in rows_to_try(prime, groups, size)]
                for bits in itertools.product([(), (1,)], repeat=size):
                    self.assertEqual(list(bits) in tried, any(bits))
                self.assertTrue(all(any(row) for row in tried))

    def test_normal_rows(self):
        for prime in PRIMES:
            for _ in range(10):
                row = self.row(prime, 3)
                if any(row):
                    by = self.source.poly(prime, 3)
                    found = normal_row(prime, row)
                    self.assertEqual(normal_row(prime, [multiply(prime, by, entry) for entry in row]), found)
                    self.assertEqual(table_rank((as_row(prime, row), as_row(prime, found))), 1)


class MultiplesTest(Drawn):
    def test_operators_of_multiples(self):
        """A multiple by h has the operator with D less h' / h."""
        for prime in PRIMES:
            for size in (1, 2, 3, 4):
                table = self.table(prime, size, 1)
                row = self.telling(table)
                operator = operator_of_row(row_steps(table, as_row(prime, row)))
                exponents = [((0, 1), self.source.number(0, prime - 1), 1), ((1, 1), self.source.number(0, prime - 1), 1)]
                tilt = Function.number(prime, 0)
                for place, exponent, _ in exponents:
                    tilt = tilt - log_slope(prime, place) * Function.number(prime, exponent)
                multiple = multiple_row(prime, row, exponents)
                self.assertEqual(operator_of_row(row_steps(table, multiple)), tilted(operator, tilt))

    def test_least_orders(self):
        """The order that is told is the least one of all exponents."""
        for prime in PRIMES:
            for size in (1, 2, 3):
                table = self.table(prime, size, 3)
                operator = operator_of_row(row_steps(table, as_row(prime, self.telling(table))))
                for place in ((0, 1), (1, 1)):
                    orders = [times_in(prime, entry.bottom, place) for entry in operator.entries]
                    due = []
                    for exponent in range(prime):
                        tilt = log_slope(prime, place) * Function.number(prime, -exponent)
                        moved = tilted(operator, tilt)
                        due.append((max(times_in(prime, entry.bottom, place) for entry in moved.entries), exponent))
                    if max(orders) > 0:
                        self.assertEqual(least_order(prime, operator, place, orders)[0], min(due)[0])
                        if max(orders) > 1:
                            self.assertEqual(least_order(prime, operator, place, orders), min(due))

    def test_best_exponents(self):
        """All poles are told, and what is told is about so for the multiple."""
        for prime in PRIMES:
            for size in (2, 3):
                table = self.table(prime, size, 4)
                row = self.telling(table)
                system = cleared_system(table)
                operator = operator_of_row(row_steps(table, as_row(prime, row)))
                parts = pole_parts(prime, operator, system[1])
                exponents = best_exponents(prime, operator, system[1])
                product = (1,)
                for part in parts:
                    product = multiply(prime, product, part)
                for place, exponent, order in exponents:
                    self.assertFalse(rest_of(prime, product, place))
                    self.assertTrue(order <= 1 or has_no_factor(prime, place))
                    self.assertIn(exponent, range(prime))
                self.assertEqual(sum(len(place) - 1 for place, _, _ in exponents), len(product) - 1)
                for entry in operator.entries:
                    self.assertEqual(common_divisor(prime, entry.bottom, product) == (1,), entry.bottom == (1,))
                moved = operator_of_row(row_steps(table, multiple_row(prime, row, exponents)))
                self.assertLessEqual(longest([moved]), told_degree(operator, exponents))
                self.assertGreaterEqual(longest([moved]), told_degree(operator, exponents) - 12)

    def test_multiples_that_undo_multiples(self):
        """A row times a function has multiples with an operator that is as short."""
        for prime in PRIMES:
            table = self.table(prime, 2, 2)
            row = self.telling(table)
            by = ((0, 1), (1, 1))
            long = [multiply(prime, multiply(prime, *by), entry) for entry in row]
            degrees = []
            for start in (row, long):
                operator = operator_of_row(row_steps(table, as_row(prime, start)))
                exponents = best_exponents(prime, operator, multiply(prime, cleared_system(table)[1], multiply(prime, *by)))
                degrees.append(sum(order * (len(place) - 1) for place, _, order in exponents))
            self.assertEqual(degrees[0], degrees[1])


if __name__ == "__main__":
    unittest.main()
