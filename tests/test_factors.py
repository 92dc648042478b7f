"""[16.1] to [16.6]: factors of degree 1, on both sides."""

import unittest

from slopewords.errors import InvalidOperation, TooMany, UnknownName
from slopewords.first.factors import MAX_DEGREE, MAX_TOP, SIDES, first_paper, first_room, first_width, firsts
from slopewords.first.factors import is_first_paper
from slopewords.first.sources import bars, has_source
from slopewords.func.functions import Function
from slopewords.func.slopes import is_log_slope, turn_of
from slopewords.line.tables import idle_table, table_plus, table_rank
from slopewords.made.rows import in_span, made_base, span_base
from slopewords.oper.changes import tilted, turned_over
from slopewords.oper.common import left_multiple
from slopewords.oper.division import is_left_factor, is_right_factor, value_at
from slopewords.oper.operators import Operator
from slopewords.turn.norms import norm, norm_at
from slopewords.turn.roots import roots
from slopewords.turn.turns import turn
from tests.support import BAR, D2, D3, EMPTY3, KINDS, LOGS, NO, ONE, PRIMES, X2, X3, Kind, Source, check_error
from tests.support import check_refusals, drawn_firsts, function_kind, product_of, turning_kind, value_kind

ONE2 = Function.number(2, 1)


def one_of(prime):
    return Function.number(prime, 1)


def side_kind():
    """A right side, and values that are none."""
    return Kind("left", UnknownName, [value for value in KINDS if value not in SIDES] + ["Right", "left ", "", 1])


def table_of_root(operator, root):
    """The turn less a function of t, at x ** p, on its diagonal."""
    size = operator.degree
    idle = tuple(tuple(root.spread() * entry for entry in row) for row in idle_table(operator.prime, size))
    return table_plus(turn(operator), idle, times=-1)


class Samples(unittest.TestCase):
    def setUp(self):
        self.source = Source(161)

    def operators(self, prime, most=4):
        """Products of factors of degree 1, some of them alike, and others."""
        found = []
        for degree in range(1, most + 1):
            for alike in (False, True):
                found.append(product_of(self.source, prime, drawn_firsts(self.source, prime, degree, alike)))
            found.append(self.source.operator(prime, degree))
        return found


class KindsTest(Samples):
    def test_constants(self):
        self.assertEqual((MAX_DEGREE, MAX_TOP, SIDES), (4, 24, ("right", "left")))

    def test_refusals(self):
        operator, function, side = turning_kind(LOGS), function_kind(NO), side_kind()
        check_refusals(self, first_paper, [operator, function], "side", side)
        check_refusals(self, is_first_paper, [operator, function, value_kind(None)], "side", side)
        check_refusals(self, first_width, [operator, function])
        check_refusals(self, first_room, [operator, function])
        check_refusals(self, firsts, [operator], "side", side)

    def test_what_an_unknown_side_keeps(self):
        for call, positional in ((first_paper, [LOGS, NO]), (is_first_paper, [LOGS, NO, None]), (firsts, [LOGS])):
            for bad in side_kind().bad:
                self.assertIs(check_error(self, UnknownName, call, positional, {"side": bad}).wanted, bad)

    def test_sequence_of_errors(self):
        """Unlike primes come behind all parameters, sizes behind unlike primes."""
        long = Operator(3, (X3 ** 20 * X3 ** 5, ONE))
        for call in (first_paper, first_width, first_room):
            check_error(self, InvalidOperation, call, [D3, X2], {})
            check_error(self, InvalidOperation, call, [long, X2], {})
            check_error(self, InvalidOperation, call, [Operator.times(ONE), None], {})
            check_error(self, InvalidOperation, call, [EMPTY3, NO], {})
        check_error(self, UnknownName, first_paper, [D3, X2], {"side": "up"})
        check_error(self, UnknownName, is_first_paper, [long, X2, None], {"side": None})
        check_error(self, UnknownName, firsts, [long], {"side": None})
        check_error(self, InvalidOperation, is_first_paper, [D3, X2, ("root",)], {})

    def test_sizes(self):
        for prime in PRIMES:
            one, letter = one_of(prime), Function.letter(prime)
            none = Function.number(prime, 0)
            for right in (Operator(prime, (letter ** 20 * letter ** 4, one)), Operator.slopes(prime, 4),
                          Operator(prime, (one // (letter ** 20 * letter ** 4), one))):
                for call in (first_paper, first_width):
                    call(right, none)
                is_first_paper(right, none, None)
                firsts(right)
            for wrong, limit in ((Operator(prime, (letter ** 20 * letter ** 5, one)), 24), (Operator.slopes(prime, 5), 4),
                                 (Operator(prime, (one, one // (letter ** 20 * letter ** 5))), 24)):
                for call, positional in ((first_paper, [wrong, none]), (first_width, [wrong, none]), (firsts, [wrong]),
                                         (first_room, [wrong, none]), (is_first_paper, [wrong, none, None])):
                    self.assertEqual(check_error(self, TooMany, call, positional, {}).limit, limit)
            check_error(self, TooMany, first_room, [Operator.slopes(prime, 5), one], {})
            check_error(self, InvalidOperation, first_room, [Operator.slopes(prime, 4), letter], {})

    def test_judged_values(self):
        place = first_paper(BAR, ONE2 // X2)
        near = KINDS + [
            ("root", ), ("root",) * 3, ["root"], ("factor",), ("factor", NO, D3, D3), ["factor", NO, D3], ("factor", NO),
            ("factor", None, D3), ("factor", NO, None), ("factor", D3, NO), ("factor", X2, D2), ("Factor", NO, LOGS),
            ("place",), ("place", (0, 1)), ("place", (0, 1), True), ("place", (False, True), 1), ("place", (0, 1), 1, 1),
            ("place", "end", 1), ("place", (0, 1), 3), ("place", [0, 1], 1), ("place", None, None), (("root",),)]
        for value in near:
            self.assertIs(is_first_paper(BAR, ONE2 // X2, value), False)
            self.assertIs(is_first_paper(LOGS, NO, value), False)
            self.assertIs(is_first_paper(LOGS, X3, value), value == ("root",))
            self.assertIs(is_first_paper(LOGS, NO, value, side="left"), False)
        self.assertIs(is_first_paper(BAR, ONE2 // X2, place), True)
        self.assertIs(is_first_paper(BAR, ONE2 // X2, place, side="left"), True)
        self.assertEqual(place, ("place", (0, 1), 1))


class FactorsTest(Samples):
    def test_16_1_values(self):
        for prime in PRIMES:
            for operator in self.operators(prime, 3):
                for function in [self.source.function(prime) for _ in range(3)]:
                    factor = Operator.factor(function)
                    self.assertIs(is_right_factor(operator, factor), not value_at(operator, function))
                    self.assertIs(is_left_factor(operator, factor),
                                  is_right_factor(turned_over(operator), Operator.factor(-function)))

    def test_16_2_just_one(self):
        seen = set()
        for prime in PRIMES:
            for operator in self.operators(prime):
                for root, many in roots(norm(operator)):
                    for side in SIDES:
                        paper = first_paper(operator, root, side=side)
                        seen.add((prime, paper[0]))
                        self.check_paper(operator, root, side, paper)
                        self.assertEqual(paper[0] == "factor", has_source(root))
                    if not has_source(root):
                        self.assertEqual(many % prime, 0)
        self.assertLessEqual({(prime, "factor") for prime in PRIMES}, seen)

    def check_paper(self, operator, root, side, paper):
        self.assertIs(is_first_paper(operator, root, paper, side=side), True)
        if paper[0] == "place":
            self.assertEqual(paper[1:], bars(root)[0])
            return
        function, other = paper[1:]
        factor = Operator.factor(function)
        self.assertEqual(factor * other if side == "left" else other * factor, operator)
        self.assertEqual(turn_of(function), root)
        self.assertIs(is_first_paper(operator, root, ("factor", function + one_of(operator.prime), other), side=side),
                      False)
        self.assertIs(is_first_paper(operator, root, ("factor", function, other + other), side=side), False)

    def test_factors_turn_up_themselves(self):
        """D - f as a factor makes turn_of(f) a root, on both sides."""
        for prime in PRIMES:
            for degree in (1, 2, 3, 4):
                functions = drawn_firsts(self.source, prime, degree)
                operator = product_of(self.source, prime, functions)
                first = Operator.times(operator.head) * Operator.factor(functions[0])
                for function, side in ((functions[-1], "right"), (-first.entries[0] // first.head, "left")):
                    root = turn_of(function)
                    self.assertFalse(norm_at(norm(operator), root))
                    self.assertEqual(first_paper(operator, root, side=side)[0], "factor")
                    self.assertGreaterEqual(first_width(operator, root), 1)

    def test_no_roots(self):
        for prime in PRIMES:
            for operator in self.operators(prime, 3):
                for root in [self.source.function(prime, 4, 3) for _ in range(3)]:
                    is_root = not norm_at(norm(operator), root)
                    for side in SIDES:
                        self.assertIs(first_paper(operator, root, side=side) == ("root",), not is_root)
                        self.assertIs(is_first_paper(operator, root, ("root",), side=side), not is_root)
                    if not is_root:
                        self.assertEqual(first_width(operator, root), 0)

    def test_16_3_rooms(self):
        for prime in PRIMES:
            for operator in self.operators(prime):
                for root, many in roots(norm(operator)):
                    paper = first_paper(operator, root)
                    width = first_width(operator, root)
                    if paper[0] == "place":
                        self.assertEqual(width, 0)
                        continue
                    self.assertEqual(width, operator.degree - table_rank(table_of_root(operator, root)))
                    self.assertTrue(1 <= width <= many)
                    self.check_room(operator, paper[1], width)

    def check_room(self, operator, function, width):
        room = first_room(operator, function)
        self.assertEqual(len(room), width)
        self.assertEqual(room, made_base(tilted(operator, function)))
        self.assertEqual(room, span_base(room))
        for made in room:
            other = function + made.slope() // made
            self.assertFalse(value_at(operator, other))
            self.assertEqual(turn_of(other), turn_of(function))
            moved = first_room(operator, other)
            self.assertTrue(all(in_span(room, made * further) for further in moved))
        if width > 1:
            total = room[0] + room[1] * Function.letter(operator.prime).spread()
            self.assertFalse(value_at(operator, function + total.slope() // total))
            self.assertNotEqual(room[0].slope() // room[0], room[1].slope() // room[1])

    def test_16_3_equal_firsts(self):
        """Two u lead to one g exactly if their quotient is a function of t."""
        for prime in PRIMES:
            letter = Function.letter(prime)
            operator = Operator.slopes(prime, 2)
            room = first_room(operator, Function.number(prime, 0))
            self.assertEqual(room, (one_of(prime), letter))
            for by in (letter.spread(), one_of(prime) + letter.spread()):
                self.assertEqual((letter * by).slope() // (letter * by), letter.slope() // letter)

    def test_16_4_widths_of_both_sides(self):
        for prime in PRIMES:
            for operator in self.operators(prime):
                turned = turned_over(operator)
                for root, _ in roots(norm(operator)):
                    self.assertEqual(first_width(operator, root), first_width(turned, -root))
                    self.assertFalse(norm_at(norm(turned), -root))
                    left = first_paper(operator, root, side="left")
                    if left[0] == "factor":
                        self.assertEqual(turn_of(-left[1]), -root)
                        self.assertIs(is_right_factor(turned, Operator.factor(-left[1])), True)

    def test_16_5_multiples(self):
        for prime in PRIMES:
            for operator in self.operators(prime, 3):
                found = [Operator.factor(paper[1]) for _, paper in firsts(operator) if paper[0] == "factor"]
                if found:
                    multiple = found[0]
                    for factor in found[1:]:
                        multiple = left_multiple(multiple, factor)[0]
                    self.assertEqual(multiple.degree, len(found))
                    self.assertIs(is_right_factor(operator, multiple), True)

    def test_firsts(self):
        for prime in PRIMES:
            for operator in self.operators(prime):
                for side in SIDES:
                    rows = firsts(operator, side=side)
                    self.assertEqual([root for root, _ in rows], [root for root, _ in roots(norm(operator))])
                    for root, paper in rows:
                        self.assertEqual(paper[0], first_paper(operator, root, side=side)[0])
                        self.assertIs(is_first_paper(operator, root, paper, side=side), True)
                self.assertEqual([row[0] for row in firsts(operator)], [row[0] for row in firsts(operator, side="right")])

    def test_norms_with_long_functions(self):
        """Norms can have functions of degrees above 24; their roots are told all the same."""
        for prime in PRIMES:
            low, head = [Function(prime, self.source.poly(prime, 24), self.source.poly(prime, 23)) for _ in range(2)]
            operator, function = Operator(prime, (-low, head)), low // head
            root = turn_of(function)
            check_error(self, TooMany, roots, [norm(operator)], {})
            for side in SIDES:
                self.assertEqual([found for found, _ in firsts(operator, side=side)], [root])
                self.check_paper(operator, root, side, first_paper(operator, root, side=side))
            self.assertEqual(first_paper(operator, root), ("factor", function, Operator.times(head)))
            self.assertEqual(first_width(operator, root), 1)

    def test_widths_less_than_numbers(self):
        for prime in PRIMES:
            one, letter = one_of(prime), Function.letter(prime)
            none = Function.number(prime, 0)
            logs = Operator(prime, (none, one // letter, one))
            self.assertEqual((first_width(logs, none), roots(norm(logs))), (1, ((none, 2),)))
            self.assertEqual(first_room(logs, none), (one,))
            for degree in range(1, 5):
                width = min(degree, prime)
                if degree <= prime:
                    self.assertEqual(first_width(Operator.slopes(prime, degree), none), width)
            shifted = tilted(logs, letter)
            self.assertEqual(first_width(shifted, -turn_of(letter)), 1)

    def test_barred_roots(self):
        for operator in (BAR, BAR * BAR, BAR * D2):
            root = ONE2 // X2
            self.assertEqual(first_width(operator, root), 0)
            for side in SIDES:
                self.assertEqual(first_paper(operator, root, side=side), ("place", (0, 1), 1))
        self.assertEqual([paper[0] for _, paper in firsts(BAR * D2)], ["place", "factor"])

    def test_papers_of_others(self):
        """Every right factor is a right paper, whatever its degrees are."""
        for prime in PRIMES:
            one, letter = one_of(prime), Function.letter(prime)
            none, flat = Function.number(prime, 0), Operator.slopes(prime, 2)
            made = one + letter * (letter ** 20 * letter ** 20).spread()
            function = made.slope() // made
            self.assertTrue(is_log_slope(function))
            self.assertGreater(len(function.bottom), 60)
            other = Operator.factor(-function)
            self.assertEqual(other * Operator.factor(function), flat)
            self.assertIs(is_first_paper(flat, none, ("factor", function, other)), True)
            for near in (other + Operator.times(one), other.led(letter), Operator.slopes(prime, 1)):
                self.assertIs(is_first_paper(flat, none, ("factor", function, near)), False)
            self.assertIs(is_first_paper(flat, letter, ("factor", function, other)), False)


class SayingsTest(unittest.TestCase):
    def test_16_6(self):
        self.assertEqual((first_width(LOGS, NO), dict((str(c), many) for c, many in roots(norm(LOGS)))), (1, {"0": 2}))
        right = first_paper(LOGS, NO)[1]
        self.assertIs(is_left_factor(LOGS, Operator.factor(right)), False)
        airy = Operator(3, (-X3, NO, ONE))
        square = airy * airy
        self.assertEqual((roots(norm(square)), firsts(square), square.degree), ((), (), 4))
        self.assertIs(is_right_factor(square, airy), True)


if __name__ == "__main__":
    unittest.main()
