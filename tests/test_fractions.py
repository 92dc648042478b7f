"""[20.1] to [20.6]: lines over the fractions, and whole polynomials modulo primes."""

import itertools
import unittest
from fractions import Fraction
from math import gcd, lcm

from slopewords.errors import InvalidNumber, InvalidOperation, InvalidPoly, Refused
from slopewords.func.functions import Function, are_independent
from slopewords.func.slopes import is_log_slope
from slopewords.line.fractions import MAX_PRIME, MOST_DEGREE, MOST_NUMBER, is_flat_line, least_unflat, line_paper
from slopewords.line.fractions import sum_paper, wronskian
from slopewords.line.tables import table_kernel
from slopewords.oper.operators import Operator
from slopewords.turn.turns import is_flat
from tests.support import KINDS, PRIMES, Kind, Source, check_error, check_refusals, wrong_primes

SMALL_PRIMES = [number for number in range(2, 1000) if all(number % other for other in range(2, number))]


def trimmed(numbers):
    numbers = list(numbers)
    while numbers and numbers[-1] == 0:
        numbers.pop()
    return tuple(numbers)


def times(one, other):
    out = [0] * (len(one) + len(other))
    for low, first in enumerate(one):
        for high, second in enumerate(other):
            out[low + high] += first * second
    return trimmed(out)


def plus(one, other, factor=1):
    return trimmed(first + factor * second for first, second in itertools.zip_longest(one, other, fillvalue=0))


def slope(poly):
    return trimmed(place * number for place, number in enumerate(poly))[1:] if poly else ()


def worth_at(poly, number):
    return sum(factor * number ** power for power, factor in enumerate(poly))


def near_roots(poly):
    """All roots of a polynomial with single roots, as near as complex numbers can tell."""
    found = [(0.4 + 0.9j) ** place * (1 + max(map(abs, poly)) / abs(poly[-1])) for place in range(len(poly) - 1)]
    for _ in range(400):
        for place, root in enumerate(found):
            by = poly[-1]
            for further, other in enumerate(found):
                by = by * (root - other) if further != place else by
            found[place] = root - worth_at(poly, root) / by
    return found


def is_primitive(poly):
    content = 0
    for number in poly:
        content = gcd(content, number)
    return content == 1 and poly[-1] > 0


def wrong_wholes():
    """Values that are no whole polynomials."""
    right = ((), (1,), (0, 1))
    found = [value for value in KINDS if not (type(value) is tuple and value in right and True not in
                                              [number is True for number in value])]
    return found + [(0,), (1, 0), (1000001,), (-1000001, 1), (1,) * 8, [1], (1, True), (1, None), (True,), ("1",), (1, 0.5)]


def whole_kind(good):
    return Kind(good, InvalidPoly, wrong_wholes())


def prime_kind():
    """Primes below 1000, and values that are none."""
    bad = [value for value in KINDS if type(value) is not int or value not in SMALL_PRIMES]
    return Kind(3, InvalidNumber, bad + [0, 1, 4, 6, 9, 25, 49, 961, 989, 997 * 991, 1000, 1009, -3, -2, 10 ** 59])


class Samples(unittest.TestCase):
    def setUp(self):
        self.source = Source(201)

    def whole(self, degree, most=9):
        """A whole polynomial of a degree."""
        return tuple(self.source.number(-most, most) for _ in range(degree)) + (self.source.number(1, most),)

    def power_line(self):
        """A line with a power, of places and residues that are drawn: the pair of top and bottom, and the residues."""
        places, residues = [], []
        for degree in self.source.choice([(1,), (1, 1), (1, 2), (2,), (1, 1, 1), (3,), (2, 2), (1, 1, 1, 1)]):
            place = self.whole(degree, 4)
            content = 0
            for number in place:
                content = gcd(content, number)
            places.append(tuple(number // content for number in place))
            residues.append(Fraction(self.source.number(-4, 4) or 1, self.source.number(1, 4)))
        common = lcm(*[residue.denominator for residue in residues])
        bottom, top = (1,), ()
        for place in places:
            bottom = times(bottom, place)
        for at, place in enumerate(places):
            part = slope(place)
            for further, other in enumerate(places):
                if further != at:
                    part = times(part, other)
            top = plus(top, part, int(residues[at] * common))
        return top, times(bottom, (common,)), list(zip(places, residues))

    def lines(self):
        """Tops and bottoms of all kinds."""
        found = [self.power_line()[:2] for _ in range(60)]
        for _ in range(60):
            found.append((self.whole(self.source.number(0, 4)), self.whole(self.source.number(0, 5))))
        found += [((), (5,)), ((), (0, 1)), ((3,), (2,)), ((1,), (0, 0, 1)), ((0, 2), (0, 0, 4)), ((-1,), (-3, 0, 3))]
        return [line for line in found if max(len(part) for part in line) <= 7]


class KindsTest(Samples):
    def test_constants(self):
        self.assertEqual((MOST_NUMBER, MOST_DEGREE, MAX_PRIME), (1000000, 6, 1000))

    def test_refusals(self):
        top, bottom = whole_kind((1,)), whole_kind((0, 1))
        for call in (line_paper, least_unflat):
            check_refusals(self, call, [top, bottom])
        check_refusals(self, is_flat_line, [top, bottom, prime_kind()])
        polys = Kind(((1,), (0, 1)), InvalidPoly, KINDS + [
            (), ((1,),) * 5, ((1,), None), ((1,), (0,)), [(1,)], ((1,), (1000001,)), ((1,) * 8,), ((True,),), (1,), ((1,), 1)])
        polys.bad = [value for value in polys.bad if value not in (((),), ((1,),))] + [((True,),)]
        check_refusals(self, wronskian, [polys])
        check_refusals(self, sum_paper, [polys, Kind(3, InvalidNumber, wrong_primes())])

    def test_sequence_of_errors(self):
        for call, more in ((line_paper, []), (least_unflat, []), (is_flat_line, [3])):
            check_error(self, InvalidOperation, call, [(1,), (), *more], {})
            check_error(self, InvalidOperation, call, [(), (), *more], {})
            check_error(self, InvalidPoly, call, [(0,), (), *more], {})
        self.assertEqual(check_error(self, InvalidNumber, is_flat_line, [(1,), (), 4], {}).given, 4)
        self.assertEqual(check_error(self, InvalidNumber, is_flat_line, [(1,), (0, 4), 4], {}).given, 4)
        self.assertEqual(check_error(self, Refused, is_flat_line, [(1,), (0, 4), 2], {}).reason, ("bad",))

    def test_bounds(self):
        most = MOST_NUMBER
        for call in (line_paper, least_unflat):
            call((most,) * 7, (-most,) * 7)
            call((-most, 1), (0,) * 6 + (most,))
            for wrong in ((most + 1,), (-most - 1,), (0,) * 7 + (1,)):
                check_error(self, InvalidPoly, call, [wrong, (1,)], {})
                check_error(self, InvalidPoly, call, [(1,), wrong], {})
        wronskian(((most,) * 7, (-most,) * 6 + (1,), (1,), (0, 1)))
        for prime in (2, 3, 5, 7, 11, 991, 997):
            self.assertIs(is_flat_line((1,), (0, 1), prime), True)
        for wrong in (1, 0, -2, 4, 1009, 1000, 10 ** 60):
            self.assertEqual(check_error(self, InvalidNumber, is_flat_line, [(1,), (0, 1), wrong], {}).given, wrong)


class PapersTest(Samples):
    def check_power(self, top, bottom, paper):
        """N times the function is the sum of all numbers times slopes of logarithms."""
        _, least, rows = paper
        self.assertEqual([many for _, many in rows], sorted({many for _, many in rows}))
        upper, lower = (), (1,)
        for place, many in rows:
            self.assertTrue(is_primitive(place))
            self.assertNotEqual(many, 0)
            upper = plus(times(upper, place), times(slope(place), lower), many)
            lower = times(lower, place)
        self.assertEqual(times(upper, bottom), times(times((least,), top), lower))
        for divisor in range(2, least + 1):
            if least % divisor == 0:
                self.assertTrue(any(many % divisor for _, many in rows))

    def test_20_3_powers(self):
        for _ in range(150):
            top, bottom, places = self.power_line()
            paper = line_paper(top, bottom)
            if paper[0] == "order":
                self.assertLess(len({place for place, _ in places}), 8)
                continue
            self.assertEqual(paper[0], "power")
            self.check_power(top, bottom, paper)
            found = {}
            for place, residue in places:
                found[residue] = times(found.get(residue, (1,)), place)
            factors = [place for place, _ in places]
            doubled = [self.shared(place, slope(place)) for place in factors]
            if not any(self.shared(*pair) for pair in itertools.combinations(factors, 2)) and not any(doubled):
                least = lcm(*[residue.denominator for residue in found])
                self.assertEqual(paper[1], least)
                self.assertEqual(paper[2], tuple((place, int(residue * least)) for residue, place in sorted(found.items())))

    def shared(self, one, other):
        """Whether two polynomials have a common root."""
        while other:
            rest = [Fraction(number) for number in one]
            while len(rest) >= len(other):
                factor = rest[-1] / other[-1]
                for place, number in enumerate(other, start=len(rest) - len(other)):
                    rest[place] -= factor * number
                rest.pop()
            while rest and rest[-1] == 0:
                rest.pop()
            one, other = other, rest
        return len(one) > 1

    def test_papers_of_few(self):
        rows = [
            ((), (7,), ("power", 1, ())), ((), (0, 0, 1), ("power", 1, ())), ((2,), (3,), ("degree",)),
            ((0, 1), (1, 1), ("degree",)), ((0, 0, 1), (0, 2, 2), ("degree",)), ((0, 6), (0, 0, 4), ("power", 2, (((0, 1), 3),))),
            ((1,), (1, 2, 1), ("order", (1, 1))), ((1,), (0, 0, 1, 1), ("order", (0, 1))),
            ((0, 0, 1), (0, 0, 0, 2), ("power", 2, (((0, 1), 1),))), ((0, 0, 0, 1), (1, -2, 1), ("order", (-1, 1))),
            ((1,), (4, 0, -4, 0, 1), ("order", (-2, 0, 1))), ((-1,), (0, 3), ("power", 3, (((0, 1), -1),))),
            ((1,), (0, -2), ("power", 2, (((0, 1), -1),))), ((0, 2), (1, 0, 1), ("power", 1, (((1, 0, 1), 1),))),
            ((1,), (1, 0, 1), ("residue", (1, 0, 4))), ((1, 1), (1, 0, 1), ("residue", (1, -2, 2))),
            ((0, 1), (-2, 0, 1), ("power", 2, (((-2, 0, 1), 1),))),
            ((-1, 1), (0, -1, 0, 1), ("power", 1, (((1, 1), -1), ((0, 1), 1)))),
            ((1,), (0, -2, 0, 1), ("power", 4, (((0, 1), -2), ((-2, 0, 1), 1)))),
            ((1, 1), (0, -2, 0, 1), ("residue", (-1, -8, 16)))]
        for top, bottom, due in rows:
            self.assertEqual(line_paper(top, bottom), due)

    def test_residues_that_are_no_fractions(self):
        """The roots of h are the residues: upper less z times the slope has a common root with the bottom."""
        seen = 0
        for top, bottom in self.lines():
            paper = line_paper(top, bottom)
            if paper[0] == "residue":
                seen += 1
                self.assertTrue(is_primitive(paper[1]))
                self.assertFalse(self.shared(paper[1], slope(paper[1])))
                self.assertFalse(self.has_fraction_root(paper[1]))
                self.check_residues(top, bottom, paper[1])
        self.assertGreater(seen, 20)

    def has_fraction_root(self, poly):
        if poly[0] == 0:
            return True
        bounds = [[divisor for divisor in range(1, min(abs(number), 400) + 1) if number % divisor == 0]
                  for number in (poly[0], poly[-1])]
        return any(sum(number * Fraction(sign * upper, lower) ** power for power, number in enumerate(poly)) == 0
                   for upper in bounds[0] for lower in bounds[1] for sign in (1, -1))

    def check_residues(self, top, bottom, poly):
        """All residues are near roots of h, or near fractions."""
        residues = [worth_at(top, root) / worth_at(slope(bottom), root) for root in near_roots(bottom)]
        near = [residue for residue in residues if min(abs(residue - root) for root in near_roots(poly)) < 1e-6]
        self.assertGreaterEqual(len(near), len(poly) - 1)
        for residue in residues:
            if residue not in near:
                told = Fraction(residue.real).limit_denominator(10 ** 5)
                self.assertLess(abs(residue - complex(told)), 1e-6)

    def test_orders_and_degrees(self):
        for _ in range(60):
            place, other = self.whole(1, 5), self.whole(self.source.number(0, 2), 5)
            bottom = times(times(place, place), other)
            top = self.whole(self.source.number(0, 5), 5)
            if not self.shared(top, place):
                paper = line_paper(top, bottom)
                self.assertEqual(paper[0], "order")
                self.assertTrue(is_primitive(paper[1]))
                self.assertTrue(self.shared(paper[1], place))
        for _ in range(30):
            bottom = self.whole(1, 5)
            self.assertIn(line_paper(self.whole(self.source.number(1, 6), 5), bottom)[0], ("degree",))

    def test_20_1_one_form(self):
        """Top and bottom times the same make the same function."""
        for top, bottom in self.lines():
            for by in ((2,), (-3,), (1, 1), (-1, 2)):
                more = times(top, by), times(bottom, by)
                if max(len(part) for part in more) <= 7:
                    self.assertEqual(line_paper(*more), line_paper(top, bottom))
                    self.assertEqual(is_flat_line(*more, 991), is_flat_line(top, bottom, 991))

    def test_great_numbers(self):
        most = MOST_NUMBER
        self.assertEqual(line_paper((999983,), (0, 999979)), ("power", 999979, (((0, 1), 999983),)))
        paper = line_paper((1,), (most - 17, most, -most + 3, most - 5, 1, most, most - 1))
        self.assertEqual((paper[0], len(paper[1])), ("residue", 7))
        bottom = (-720, 1764, -1624, 735, -175, 21, -1)
        paper = line_paper((1,), bottom)
        self.assertEqual(paper[:2], ("power", 120))
        self.check_power((1,), bottom, paper)


class FlatTest(Samples):
    def good_primes(self, top, bottom, primes):
        for prime in primes:
            try:
                yield prime, is_flat_line(top, bottom, prime)
            except Refused as refused:
                self.assertEqual(refused.reason, ("bad",))

    def test_20_4_small_primes(self):
        """As the log slopes and the turns of stage 4 and 12 tell."""
        seen = set()
        for top, bottom in self.lines():
            for prime, flat in self.good_primes(top, bottom, PRIMES):
                upper, lower = self.reduced(top, bottom, prime)
                function = Function(prime, upper, lower)
                self.assertIs(flat, is_log_slope(function))
                self.assertIs(flat, is_flat(Operator.factor(function)))
                seen.add((prime, flat))
        self.assertEqual(seen, {(prime, flat) for prime in PRIMES for flat in (True, False)})

    def reduced(self, top, bottom, prime):
        """Top and bottom modulo a good prime, first divided by as many primes as can be."""
        content = 0
        for number in bottom:
            content = gcd(content, number)
        while content % prime == 0:
            content //= prime
            top = tuple(number // prime for number in top)
            bottom = tuple(number // prime for number in bottom)
        return trimmed(number % prime for number in top), trimmed(number % prime for number in bottom)

    def test_bad_primes(self):
        """A prime is good exactly if it does not divide m."""
        for top, bottom in self.lines():
            contents = []
            for poly in (top, bottom):
                content = 0
                for number in poly:
                    content = gcd(content, number)
                contents.append(content)
            lower = contents[1] // gcd(*contents)
            good = {prime for prime, _ in self.good_primes(top, bottom, SMALL_PRIMES[:25])}
            self.assertEqual(good, {prime for prime in SMALL_PRIMES[:25] if lower % prime or not top})

    def test_20_4_powers(self):
        for _ in range(40):
            top, bottom, _ = self.power_line()
            paper = line_paper(top, bottom)
            if paper[0] == "power":
                for prime, flat in self.good_primes(top, bottom, SMALL_PRIMES[:12] + [997]):
                    self.assertTrue(flat or paper[1] % prime == 0)
                found = least_unflat(top, bottom)
                self.assertTrue(found is None or paper[1] % found == 0)
            else:
                self.assertIsNotNone(least_unflat(top, bottom))

    def test_least_unflat(self):
        for top, bottom in self.lines()[::8]:
            found = least_unflat(top, bottom)
            due = [prime for prime, flat in self.good_primes(top, bottom, SMALL_PRIMES) if not flat]
            self.assertEqual(found, due[0] if due else None)
        self.assertEqual([least_unflat((1,), (1,)), least_unflat((), (1,)), least_unflat((1,), (0, 6))], [2, None, None])
        self.assertEqual(least_unflat((2 * 3 * 5 * 7 * 11 * 13,), (1,)), 17)
        self.assertEqual(least_unflat((997 * 991,), (1,)), 2)
        self.assertEqual([least_unflat((0, 1), (-2, 0, 1)), least_unflat((1, 1), (0, 1))], [None, 2])

    def test_great_primes(self):
        """D - 1 / (x x + 1) has the residues 1 / (2 a) at the roots a of -1, so it is flat if -1 is a square."""
        for prime in (11, 13, 101, 499, 997):
            flat = is_flat_line((1,), (1, 0, 1), prime)
            squares = {number * number % prime for number in range(1, prime)}
            self.assertIs(flat, (prime - 1) in squares)
            self.assertIs(is_flat_line((0, 1), (1, 0, 1), prime), True)
            self.assertIs(is_flat_line((1,), (0, 0, 1), prime), False)
            self.assertIs(is_flat_line((1,), (1,), prime), False)
            self.assertIs(is_flat_line((prime,), (1,), prime), True)
            self.assertIs(is_flat_line((1, prime), (0, 1), prime), True)
            self.assertIs(is_flat_line((1,), (0, 1, prime), prime), True)


class SumsTest(Samples):
    def polys(self, many):
        return tuple(self.whole(self.source.number(0, 6), 5) if self.source.number(0, 5) else () for _ in range(many))

    def test_20_5_wronskians(self):
        for _ in range(60):
            polys = self.polys(self.source.number(1, 4))
            found = wronskian(polys)
            self.assertEqual(found, self.slow_wronskian(polys))
            for prime in PRIMES:
                functions = [Function(prime, trimmed(number % prime for number in poly), (1,)) for poly in polys]
                free = any(number % prime for number in found)
                self.assertIs(are_independent(tuple(functions)), free)
                self.assertIs(sum_paper(polys, prime) == ("free",), free)

    def slow_wronskian(self, polys):
        rows = [polys]
        for _ in polys[1:]:
            rows.append(tuple(slope(poly) for poly in rows[-1]))
        total = ()
        for columns in itertools.permutations(range(len(polys))):
            sign = 1
            for one, other in itertools.combinations(columns, 2):
                sign = -sign if one > other else sign
            product = (1,)
            for row, column in zip(rows, columns):
                product = times(product, row[column])
            total = plus(total, product, sign)
        return total

    def test_sum_papers(self):
        seen = set()
        for prime in PRIMES:
            for _ in range(40):
                polys = list(self.polys(self.source.number(1, 4)))
                if len(polys) > 2 and self.source.number(0, 1):
                    polys[-1] = trimmed(first + 2 * second + prime * self.source.number(-3, 3)
                                        for first, second in itertools.zip_longest(polys[0], polys[1], fillvalue=0))
                polys = tuple(polys)
                paper = sum_paper(polys, prime)
                seen.add((prime, paper[0]))
                functions = [Function(prime, trimmed(number % prime for number in poly), (1,)) for poly in polys]
                if paper[0] == "free":
                    self.assertEqual(paper, ("free",))
                    continue
                self.assertEqual(len(paper[1]), len(polys))
                self.assertTrue(any(paper[1]))
                total = Function.number(prime, 0)
                for factor, function in zip(paper[1], functions):
                    total = total + factor.spread() * function
                self.assertFalse(total)
                table = tuple(zip(*[function.parts() for function in functions]))
                self.assertEqual(paper[1], table_kernel(table)[0])
        self.assertEqual(seen, {(prime, word) for prime in PRIMES for word in ("free", "sum")})

    def test_few(self):
        self.assertEqual(wronskian(((3, 1),)), (3, 1))
        self.assertEqual(wronskian(((), (1,))), ())
        self.assertEqual(wronskian(((1,), (0, 1), (0, 0, 1))), (2,))
        self.assertEqual(wronskian(((1,), (0, 1), (0, 0, 1), (0, 0, 0, 1))), (12,))
        one = Function.number(2, 1)
        self.assertEqual(sum_paper(((2, 4),), 2), ("sum", (one,)))
        self.assertEqual(sum_paper(((1,), (3,)), 2), ("sum", (one, one)))
        self.assertEqual(sum_paper(((1,), (3,)), 3), ("sum", (Function.number(3, 0), Function.number(3, 1))))
        self.assertEqual(sum_paper(((1,), (0, 1)), 2), ("free",))
        self.assertEqual(sum_paper(((1,), (0, 1), (0, 0, 1)), 2)[0], "sum")


class SayingsTest(unittest.TestCase):
    def test_20_6(self):
        self.assertEqual((line_paper((1,), (0, 2, 1))[1], is_flat_line((1,), (0, 2, 1), 2)), (2, False))
        self.assertEqual((line_paper((1, 5), (0, 1)), is_flat_line((1, 5), (0, 1), 5)), (("degree",), True))
        self.assertEqual(wronskian(((1,), (0, 0, 0, 1))), (0, 0, 3))
        self.assertEqual(sum_paper(((1,), (0, 0, 0, 1)), 3)[0], "sum")


if __name__ == "__main__":
    unittest.main()
