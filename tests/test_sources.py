"""[15.1] to [15.7], and of [0.17] what is said of functions of t: sources."""

import unittest

from slopewords.errors import InvalidNumber, InvalidOperation, InvalidPlace, InvalidPoly, TooMany
from slopewords.first.sources import MAX_PLACE, MAX_TOP, bars, cleaned, each_shrunk, has_source, is_source_paper
from slopewords.first.sources import place_source, source_paper
from slopewords.base.polys import irreducibles, is_irreducible, poly_factors, poly_power
from slopewords.func.functions import Function
from slopewords.func.places import poles, residue, residue_traces, trace
from slopewords.func.slopes import is_log_slope, log_source, shrunk, turn_of
from slopewords.oper.operators import Operator
from slopewords.turn.turns import turn
from tests.support import KINDS, PRIMES, X2, X3, Source, check_error, check_refusals, function_kind
from tests.support import place_kind, poly_kind, prime_kind, value_kind

ONE2 = Function.number(2, 1)


def zero(prime):
    return Function.number(prime, 0)


def one_of(prime):
    return Function.number(prime, 1)


def call_first(function):
    """The first member that a generator yields."""
    return next(each_shrunk(function))


def long_power(prime, many):
    """The letter to a power."""
    return Function(prime, (0,) * many + (1,), (1,))


class Samples(unittest.TestCase):
    def setUp(self):
        self.source = Source(151)

    def function(self, prime):
        return self.source.function(prime, 5, 4)

    def place(self, prime, degree):
        """An irreducible polynomial of a degree."""
        while True:
            poly = self.source.poly(prime, degree)[:-1] + (1,)
            if is_irreducible(prime, poly):
                return poly

    def check_clean(self, found):
        """Each residue has the lowest number 0."""
        for place, _ in poles(found):
            if place != "end":
                self.assertIn(residue(found, place)[:1], ((), (0,)))

    def remainder(self, prime, place):
        return self.source.poly(prime, self.source.number(-1, len(place) - 2))


class KindsTest(Samples):
    def test_constants(self):
        self.assertEqual((MAX_TOP, MAX_PLACE), (40, 12))

    def test_refusals(self):
        function = function_kind(X3)
        for call in (has_source, bars, source_paper, cleaned, call_first):
            check_refusals(self, call, [function])
        check_refusals(self, is_source_paper, [function, value_kind(None)])
        place = place_kind((1, 1))
        place.bad = place.bad + ["end"]
        check_refusals(self, place_source, [prime_kind(), place, poly_kind((1,))])

    def test_too_many(self):
        for prime in PRIMES:
            one = one_of(prime)
            for function in (long_power(prime, 40), one // long_power(prime, 40)):
                for call in (has_source, bars, source_paper, cleaned, call_first):
                    call(function)
                is_source_paper(function, None)
            for function in (long_power(prime, 41), one // long_power(prime, 41)):
                for call in (has_source, bars, source_paper, cleaned, call_first):
                    self.assertEqual(check_error(self, TooMany, call, [function], {}).limit, 40)
                self.assertEqual(check_error(self, TooMany, is_source_paper, [function, None], {}).limit, 40)

    def test_places_refused(self):
        for prime in PRIMES:
            twelve, thirteen = self.place(prime, 12), self.place(prime, 13)
            self.assertEqual(place_source(prime, twelve, ()), ())
            self.assertEqual(check_error(self, TooMany, place_source, [prime, thirteen, ()], {}).limit, 12)
            for place in (twelve, thirteen):
                for poly in (place, (0,) + place, (0,) * (len(place) - 1) + (1,)):
                    check_error(self, InvalidOperation, place_source, [prime, place, poly], {})
            check_error(self, InvalidPlace, place_source, [prime, "end", (prime,)], {})
            check_error(self, InvalidPoly, place_source, [prime, thirteen, (prime,)], {})
            check_error(self, InvalidNumber, place_source, [4, "end", ()], {})

    def test_generator(self):
        """A generator raises its errors when its first member is requested."""
        waiting = each_shrunk(None)
        check_error(self, function_kind(None).error, next, [waiting], {})
        waiting = each_shrunk(long_power(3, 41))
        check_error(self, TooMany, next, [waiting], {})

    def test_judged_values(self):
        square = Function(2, (1,), (1, 1, 1))
        values = KINDS + [
            ("source",), ("source", X2, X2), ["source", X2], ("source", None), ("source", X3), ("SOURCE", X2), ("place",),
            ("place", "end"), ("place", (0, 1)), ("place", (0, 1), 1, 1), ("place", (0, 1), True), ("place", (0, 1), 0),
            ("place", (False, 1), 1), ("place", (0, True), 1), ("place", [0, 1], 1), ("place", (1, 1), 1),
            ("place", "END", 1), ("place", None, 1), ("place", (0, 1), None), ("place", (0, 1), 3), ("end", "place", 1)]
        for value in values:
            for function in (ONE2 // X2, ONE2 // X2 ** 2, square, X2):
                self.assertIs(is_source_paper(function, value), False)
        for value in (("place", (0, 1), 1), ("place", "end", 1)):
            self.assertIs(is_source_paper(ONE2 // X2, value), True)
            self.assertIs(is_source_paper(ONE2 // X2 ** 2, value), False)


class SourcesTest(Samples):
    def test_15_1_sources(self):
        for prime in PRIMES:
            for _ in range(8):
                function = self.function(prime)
                told = turn_of(function)
                self.assertEqual(told, function - shrunk(function))
                self.assertEqual(turn(Operator.factor(function)), ((told.spread(),),))
                self.assertIs(has_source(told), True)
                self.assertEqual(bars(told), ())
                paper = source_paper(told)
                self.assertEqual((paper[0], turn_of(paper[1])), ("source", told))
                for value in (function, paper[1]):
                    self.assertIs(is_source_paper(told, ("source", value)), True)
                letter = Function.letter(prime)
                self.assertIs(is_source_paper(told, ("source", function + letter)), False)
                self.assertIs(is_source_paper(told + one_of(prime) // letter, ("source", function)), False)

    def test_15_2_log_slopes(self):
        for prime in PRIMES:
            for _ in range(8):
                function, by = self.function(prime), self.source.nonzero(prime)
                told = turn_of(function)
                self.assertIs(is_source_paper(told, ("source", function + by.slope() // by)), True)
                self.assertIs(is_log_slope(function - source_paper(told)[1]), True)

    def test_0_17_and_15_5_just_one(self):
        for prime in PRIMES:
            seen = set()
            for _ in range(30):
                function = self.function(prime)
                barring = tuple((place, number) for place, number in residue_traces(function) if number)
                self.assertEqual(bars(function), barring)
                paper = source_paper(function)
                seen.add(paper[0])
                self.assertIs(is_source_paper(function, paper), True)
                self.assertIs(has_source(function), not barring)
                self.assertEqual(sum(number for _, number in barring) % prime, 0)
                if barring:
                    self.assertGreaterEqual(len(barring), 2)
                    self.assertEqual(paper, ("place", *barring[0]))
                    for place, number in barring:
                        self.assertIs(is_source_paper(function, ("place", place, number)), True)
                        self.assertIs(is_source_paper(function, ("place", place, number % prime + 1)), False)
                else:
                    self.assertEqual(turn_of(paper[1]), function)
            self.assertEqual(seen, {"source", "place"})

    def test_edges(self):
        for prime in PRIMES:
            none, one, letter = zero(prime), one_of(prime), Function.letter(prime)
            self.assertEqual(source_paper(none), ("source", none))
            self.assertIs(is_source_paper(none, ("source", one // letter)), True)
            self.assertIs(is_source_paper(none, ("source", one)), False)
            self.assertEqual(source_paper(one), ("source", one))
            for many in (1, 2, 5, 40):
                for function in (long_power(prime, many), one // long_power(prime, many + 1) if many < 40 else none):
                    self.assertEqual(turn_of(source_paper(function)[1]), function)
            self.assertEqual(bars(one // letter), (((0, 1), 1), ("end", prime - 1)))

    def test_15_3_shrinking(self):
        for prime in PRIMES:
            for _ in range(8):
                function = self.function(prime)
                steps = list(each_shrunk(function))
                self.assertEqual(steps[0], function)
                total = zero(prime)
                for one, other in zip(steps, steps[1:]):
                    self.assertEqual(other, shrunk(one))
                    self.assertFalse(self.is_simple(one))
                    total = total + one
                self.assertTrue(self.is_simple(steps[-1]))
                self.assertEqual(turn_of(total), function - steps[-1])
                last, first = dict(residue_traces(steps[-1])), dict(residue_traces(function))
                for place, number in first.items():
                    self.assertEqual(last.get(place, 0), number)

    def is_simple(self, function):
        return not function or (function.degree < 0 and all(order == 1 for _, order in poles(function)))

    def test_15_3_long_ones(self):
        for prime in PRIMES:
            function = Function(prime, self.source.poly(prime, 40), poly_power(prime, (1, 1), 40))
            steps = list(each_shrunk(function))
            self.assertTrue(self.is_simple(steps[-1]))
            self.assertEqual(len(list(each_shrunk(zero(prime)))), 1)
            self.assertEqual(len(list(each_shrunk(one_of(prime)))), 2)


class PlacesTest(Samples):
    def test_15_4_places(self):
        for prime in PRIMES:
            for degree in (1, 2, 3, 4, 6, 12):
                place = self.place(prime, degree)
                seen = 0
                for _ in range(8):
                    poly = self.remainder(prime, place)
                    found = place_source(prime, place, poly)
                    self.assertIs(found is None, trace(prime, place, poly) != 0)
                    if found is not None:
                        seen += bool(found)
                        self.check_place_source(prime, place, poly, found)

    def check_place_source(self, prime, place, poly, found):
        """The rest of u P' by P, over P, has a pole at P with the residue u, and its turn has the residue r."""
        self.assertEqual(found[:1], (0,) if found else ())
        self.assertLess(len(found), len(place))
        function = self.over(prime, self.product(prime, found, place), place)
        self.assertEqual(poles(function), ((place, 1),) if found else ())
        self.assertEqual(residue(function, place), found)
        self.assertEqual(residue(turn_of(function), place), poly)

    def product(self, prime, poly, place):
        """A polynomial times the slope of a place, less multiples of the place."""
        slope = Function(prime, place, (1,)).slope()
        return (Function(prime, poly, (1,)) * slope).top

    def over(self, prime, poly, place):
        """The fraction at a place of a polynomial over it: what is left without the polynomial part."""
        rest = list(poly)
        while len(rest) >= len(place):
            factor = rest[-1]
            for number, further in enumerate(place, start=len(rest) - len(place)):
                rest[number] = (rest[number] - factor * further) % prime
            while rest and rest[-1] == 0:
                rest.pop()
        return Function(prime, tuple(rest), place)

    def test_15_4_all_of_a_small_place(self):
        for prime in PRIMES:
            for place in list(irreducibles(prime, 2))[:3]:
                found = 0
                for low in range(prime):
                    for high in range(prime):
                        poly = (low, high) if high else (low,) if low else ()
                        told = place_source(prime, place, poly)
                        if told is not None:
                            found += 1
                            self.check_place_source(prime, place, poly, told)
                self.assertEqual(found, prime)
            for number in range(1, prime):
                self.assertIsNone(place_source(prime, (0, 1), (number,)))
            self.assertEqual(place_source(prime, (0, 1), ()), ())

    def test_15_4_long_places(self):
        """Sources are found at places of degrees above 12, too."""
        for prime in PRIMES:
            for degree in (12, 13, 20, 40):
                place = self.place(prime, degree)
                function = self.over(prime, self.product(prime, self.remainder(prime, place), place), place)
                told = turn_of(function)
                paper = source_paper(told)
                self.assertEqual((paper[0], turn_of(paper[1])), ("source", told))
                self.check_clean(paper[1])


class CleanTest(Samples):
    def test_15_6_clean(self):
        for prime in PRIMES:
            for _ in range(10):
                function, by = self.function(prime), self.source.nonzero(prime)
                told = turn_of(function)
                found = source_paper(told)[1]
                self.check_clean(found)
                self.assertEqual(source_paper(turn_of(function + by.slope() // by))[1], found)
                if found:
                    self.assertLessEqual(max(found.degree, -1), max(told.degree if told else -1, -1))

    def divides(self, prime, one, other):
        return Function(prime, other, one).bottom == (1,)

    def test_15_6_bottoms(self):
        for prime in PRIMES:
            for _ in range(10):
                told = turn_of(self.function(prime))
                found = source_paper(told)[1]
                self.assertTrue(self.divides(prime, found.bottom, told.bottom))

    def test_cleaned(self):
        for prime in PRIMES:
            for _ in range(10):
                by = self.source.nonzero(prime)
                function = self.function(prime) + by.slope() // by
                found, poly = cleaned(function)
                self.assertEqual(found, source_paper(turn_of(function))[1])
                log = Function(prime, poly, (1,)).slope() // Function(prime, poly, (1,))
                self.assertEqual(found + log, function)
                self.assertEqual(poly[-1], 1)
                self.assertTrue(all(1 <= many < prime for _, many in poly_factors(prime, poly)))
                self.assertEqual(log_source(log), poly)
                self.assertEqual(cleaned(found), (found, (1,)))

    def test_cleaned_edges(self):
        for prime in PRIMES:
            one, letter = one_of(prime), Function.letter(prime)
            self.assertEqual(cleaned(zero(prime)), (zero(prime), (1,)))
            for number in range(1, prime):
                told = Function.number(prime, number) // letter
                self.assertEqual(cleaned(told + letter), (letter, (0,) * number + (1,)))
            self.assertEqual(cleaned(one // letter ** 2), (one // letter ** 2, (1,)))


class SayingsTest(unittest.TestCase):
    def test_15_7(self):
        self.assertIs(has_source(ONE2 // X2), False)
        square = Function(2, (1,), (1, 1, 1))
        self.assertTrue(residue(square, (1, 1, 1)))
        self.assertIs(has_source(square), True)
        none = zero(2)
        self.assertEqual((turn_of(ONE2 // X2), poles(none), poles(ONE2 // X2)), (none, (), (((0, 1), 1),)))


if __name__ == "__main__":
    unittest.main()
