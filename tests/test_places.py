"""[3.1] to [3.7] and [0.11]: places, partial fractions, residues and traces."""

import math
import unittest

from slopewords.base.polys import common_paper, irreducibles, poly_division, poly_power, poly_product, poly_sum
from slopewords.errors import InvalidOperation, TooMany
from slopewords.func.functions import Function
from slopewords.func.places import END, MOST_BOTTOM, is_place, of_fractions, partial_fractions, poles, residue
from slopewords.func.places import residue_traces, trace
from tests.support import KINDS, NO, ONE, PRIMES, X2, X3, Source, check_error, check_refusals, function_kind
from tests.support import place_kind, poly_kind, prime_kind, value_kind, wrong_functions, wrong_places


def below(prime, poly, place):
    """The rest by a place."""
    return poly_division(prime, poly, place)[1]


def shifted(prime, poly, place, many):
    """The numbers of poly at the first powers of h, for a + h in the place of x, as polynomials in a."""
    rows = []
    for power in range(many):
        numbers = [math.comb(at, power) * number % prime for at, number in enumerate(poly)][power:]
        while numbers and not numbers[-1]:
            numbers.pop()
        rows.append(below(prime, tuple(numbers), place))
    return rows


def slow_residue(prime, top, place, order):
    """The residue of top / place ** order, by the powers of x - a for a root a, number by number."""
    numbers = shifted(prime, top, place, order)
    lower = shifted(prime, place, place, order + 1)[1:]
    undone = common_paper(prime, lower[0], place)[1]
    for _ in range(order):
        found = []
        for at in range(order):
            rest = numbers[at]
            for back in range(1, at + 1):
                product = below(prime, poly_product(prime, lower[back], found[at - back]), place)
                rest = poly_sum(prime, rest, product, times=-1)
            found.append(below(prime, poly_product(prime, rest, undone), place))
        numbers = found
    return numbers[order - 1]


def slow_trace(prime, place, poly):
    """The sum of the powers to p ** k, which belong to all roots."""
    power = below(prime, poly, place)
    total = ()
    for _ in range(len(place) - 1):
        total = poly_sum(prime, total, power)
        raised = (1,)
        for _ in range(prime):
            raised = below(prime, poly_product(prime, raised, power), place)
        power = raised
    return sum(total)


class Samples(unittest.TestCase):
    """Functions with told poles."""

    def setUp(self):
        self.source = Source(31)

    def places(self, prime):
        return [place for degree in (1, 2, 3) for place in irreducibles(prime, degree)]

    def chosen(self, prime):
        """A few places with orders, also such ones that the prime divides."""
        found = {}
        for _ in range(self.source.number(0, 3)):
            place = self.source.choice(self.places(prime))
            found[place] = self.source.choice((1, 1, 2, 3, prime, prime + 1))
        return found if sum(len(place) * order for place, order in found.items()) < 50 else {}

    def fractions(self, prime):
        """A polynomial and rows as partial_fractions tells them."""
        rows = []
        for place, order in self.chosen(prime).items():
            polys = [self.source.poly(prime, self.source.number(-1, len(place) - 2)) for _ in range(order - 1)]
            polys.append(self.source.poly(prime, self.source.number(0, len(place) - 2)))
            rows.append((len(place), place, tuple(polys)))
        return self.source.poly(prime, self.source.number(-1, 4)), tuple(row[1:] for row in sorted(rows))

    def summed(self, prime, poly, rows):
        """The function of a polynomial and of rows, from its definition."""
        total = Function(prime, poly, (1,))
        for place, polys in rows:
            for power, upper in enumerate(polys, start=1):
                total = total + Function(prime, upper, poly_power(prime, place, power))
        return total


class PlacesTest(Samples):
    def test_constants(self):
        self.assertEqual((END, MOST_BOTTOM), ("end", 200))

    def test_is_place(self):
        for prime in PRIMES:
            self.assertIs(is_place(prime, "end"), True)
            for place in self.places(prime):
                self.assertIs(is_place(prime, place), True)
                self.assertIs(is_place(prime, poly_product(prime, place, (0, 1))), False)
            for value in wrong_places() + KINDS:
                self.assertIs(is_place(prime, value), False, value)
            if prime > 2:
                self.assertIs(is_place(prime, (1, 2)), False)
        self.assertIs(is_place(2, (1, 1) + (0,) * 58 + (1,)), True)
        self.assertIs(is_place(2, (1, 1) + (0,) * 62 + (1,)), False)

    def test_refusals(self):
        prime, poly, place = prime_kind(), poly_kind((1, 1)), place_kind((1, 0, 1))
        check_refusals(self, is_place, [prime, value_kind("end")])
        for call in (poles, partial_fractions, residue_traces):
            check_refusals(self, call, [function_kind(X3)])
        check_refusals(self, residue, [function_kind(X3), place])
        check_refusals(self, trace, [prime, place, poly])
        check_error(self, InvalidOperation, trace, [3, "end", (0, 1)], {})
        check_error(self, InvalidOperation, trace, [3, "end", (0, 0, 1)], {})

    def test_place_of_another_prime(self):
        for place in ((1, 1, 1), (4, 1)):
            check_error(self, place_kind(None).error, residue, [X3, place], {})
            check_error(self, place_kind(None).error, trace, [3, place, (1,)], {})

    def test_3_1_poles(self):
        for prime in PRIMES:
            for _ in range(25):
                poly, rows = self.fractions(prime)
                due = [(place, len(polys)) for place, polys in rows]
                if len(poly) > 1:
                    due.append(("end", len(poly) - 1))
                self.assertEqual(poles(self.summed(prime, poly, rows)), tuple(due))
        self.assertEqual(poles(NO), ())
        self.assertEqual(poles(ONE), ())
        self.assertEqual(poles(X2 ** 2 // (X2 + Function.number(2, 1))), (((1, 1), 1), ("end", 1)))

    def test_3_1_long_bottoms(self):
        long_one = (1, 1) + (0,) * 58 + (1,)
        function = Function(2, (1,), long_one) ** 3
        self.assertEqual(poles(function), ((long_one, 3),))
        self.assertEqual(partial_fractions(function), ((), ((long_one, ((), (), (1,))),)))


class FractionsTest(Samples):
    def test_3_2_both_ways(self):
        for prime in PRIMES:
            for _ in range(25):
                poly, rows = self.fractions(prime)
                function = self.summed(prime, poly, rows)
                self.assertEqual(partial_fractions(function), (poly, rows))
                self.assertEqual(of_fractions(prime, poly, rows), function)
        self.assertEqual(partial_fractions(NO), ((), ()))
        self.assertEqual(partial_fractions(X3), ((0, 1), ()))

    def test_3_2_any_functions(self):
        for prime in PRIMES:
            for _ in range(10):
                function = self.source.function(prime, 12, 9)
                poly, rows = partial_fractions(function)
                self.assertEqual(self.summed(prime, poly, rows), function)
                self.assertEqual([(place, len(polys)) for place, polys in rows],
                                 [row for row in poles(function) if row[0] != "end"])
                for place, polys in rows:
                    self.assertTrue(polys[-1])
                    self.assertTrue(all(len(upper) < len(place) for upper in polys))

    def test_of_fractions_adds_up(self):
        row = ((0, 1), ((1,), (), (2,)))
        function = of_fractions(3, (), (((1, 1), ((),)), row, row, ((1, 0, 1), ((0, 1),)), row))
        self.assertEqual(function, Function(3, (0, 1), (1, 0, 1)))
        self.assertEqual(of_fractions(3, (), ()), NO)
        self.assertEqual(of_fractions(3, (), (((0, 1), ((1,),)),) * 20), (ONE + ONE) // X3)
        self.assertEqual(of_fractions(3, (2, 1), ()), X3 + Function.number(3, 2))

    def test_refusals(self):
        rows = (((0, 1), ((1,),)),)
        check_refusals(self, of_fractions, [prime_kind(), poly_kind((1,)), value_kind(rows)])
        for bad in KINDS + [
                (((0, 1), ()),), (((0, 1), [(1,)]),), (((0, 1), ((0, 1),)),), (("end", ((1,),)),), (((1,), ((),)),),
                (((0, 1), ((1,), (3,))),), (((2, 0, 1), ((1,),)),), (((0, 2), ((1,),)),), (((0, 1),),),
                (((0, 1), ((1,),), 1),), [((0, 1), ((1,),))], ([(0, 1), ((1,),)],), (((0, 1), ((1,),) * 21),),
                rows * 21, (((0, 1), ((True,),)),), (((1, 0, 1), ((1, 1, 1),)),)]:
            if bad != ():
                check_error(self, InvalidOperation, of_fractions, [3, (1,), bad], {})
        check_error(self, poly_kind(None).error, of_fractions, [3, (3,), None], {})

    def test_too_many(self):
        place = next(poly for poly in irreducibles(3, 5))
        row = (place, ((1,),) * 20)
        self.assertEqual(len(of_fractions(3, (), (row, (place, ((),) * 20))).bottom), 101)
        caught = check_error(self, TooMany, of_fractions, [3, (), (row, row, ((0, 1), ((1,),)))], {})
        self.assertEqual(caught.limit, 200)
        check_error(self, InvalidOperation, of_fractions, [3, (), (row, row, row, ((0, 1), ()))], {})


class ResiduesTest(Samples):
    def test_3_3_by_powers(self):
        for prime in PRIMES:
            for _ in range(30):
                poly, rows = self.fractions(prime)
                function = self.summed(prime, poly, rows)
                for place, polys in rows:
                    upper = ()
                    for part in polys:
                        upper = poly_sum(prime, poly_product(prime, upper, place), part)
                    due = slow_residue(prime, upper, place, len(polys))
                    self.assertEqual(residue(function, place), due)
                for place in self.places(prime):
                    if place not in dict(rows):
                        self.assertEqual(residue(function, place), ())

    def test_3_3_at_the_end(self):
        rows = (((), (1,), ()), ((1,), (0, 1), (2,)), ((2, 1), (0, 0, 1), (2,)), ((1,), (0, 0, 1), ()),
                ((0, 0, 0, 1), (1, 0, 1), (1,)), ((1, 0, 1), (0, 1), (2,)), ((2, 2), (1, 0, 1), (1,)))
        for top, bottom, due in rows:
            self.assertEqual(residue(Function(3, top, bottom), "end"), due)

    def test_3_4_trace(self):
        for prime in PRIMES:
            for place in self.places(prime)[:12] + list(irreducibles(prime, 3))[-3:]:
                for _ in range(5):
                    poly = self.source.poly(prime, self.source.number(-1, 10))
                    due = slow_trace(prime, place, poly)
                    self.assertEqual(trace(prime, place, poly), due)
                    short = poly[:3] if len(poly) < 4 or poly[2] else (1,)
                    self.assertEqual(trace(prime, place, poly_power(prime, short, prime)), trace(prime, place, short))
            self.assertEqual(trace(prime, "end", ()), 0)
            self.assertEqual(trace(prime, "end", (prime - 1,)), prime - 1)
        self.assertEqual(trace(2, (1, 1, 1), (1,)), 0)
        self.assertEqual(trace(2, (1, 1, 1), (0, 1)), 1)
        self.assertEqual(trace(7, (0, 1), (3,) + (0,) * 59 + (1,)), 3)

    def test_3_5_all_together(self):
        for prime in PRIMES:
            for _ in range(25):
                function = self.source.function(prime, 9, 9)
                rows = residue_traces(function)
                self.assertEqual([row[0] for row in rows],
                                 [row[0] for row in poles(function) if row[0] != "end"] + ["end"])
                self.assertEqual(sum(row[1] for row in rows) % prime, 0)
                for place, number in rows:
                    self.assertEqual(number, trace(prime, place, residue(function, place)))

    def test_3_6_rules(self):
        for prime in PRIMES:
            for _ in range(12):
                one, other = [self.summed(prime, *self.fractions(prime)) for _ in range(2)]
                for place in self.places(prime)[:8] + ["end"]:
                    self.assertEqual(residue(one + other, place),
                                     poly_sum(prime, residue(one, place), residue(other, place)))
                for place, _ in poles(one.slope()) + (("end", 1),):
                    self.assertEqual(residue(one.slope(), place), ())
                if one:
                    self.check_logarithm(prime, one)

    def check_logarithm(self, prime, function):
        lower = dict(poles(function))
        upper = dict(poles(Function.number(prime, 1) // function))
        for place in set(lower) | set(upper) - {"end"}:
            if place != "end":
                number = (upper.get(place, 0) - lower.get(place, 0)) % prime
                self.assertEqual(residue(function.slope() // function, place), (number,) if number else ())

    def test_3_7_sayings(self):
        twice = Function(3, (1,), (1, 0, 2, 0, 1))
        self.assertEqual(partial_fractions(twice)[1][0][1][0], ())
        self.assertNotEqual(residue(twice, (1, 0, 1)), ())
        self.assertEqual([residue(X2, place) for place in ((0, 1), (1, 1), (1, 1, 1), "end")], [()] * 4)
        self.assertTrue(X2.last_part())
        self.assertEqual((poles(ONE // X3)[-1][0], residue(ONE // X3, "end")), ((0, 1), (2,)))

    def test_wrong_functions(self):
        for bad in wrong_functions():
            check_error(self, function_kind(None).error, residue, [bad, None], {})


if __name__ == "__main__":
    unittest.main()
