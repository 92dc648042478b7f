"""[22.1] to [22.6]: texts of polynomials, functions, operators and words."""

import itertools
import unittest

from slopewords.errors import ParseError, TooMany
from slopewords.func.functions import Function
from slopewords.oper.operators import Operator
from slopewords.text.texts import MAX_POWER, MAX_SLOPES, MOST_TEXT, is_written, read_function, read_operator, read_poly
from slopewords.text.texts import read_word, signs, write_function, write_operator, write_poly
from tests.support import D2, D3, EMPTY3, KINDS, LOGS, NO, ONE, PRIMES, X2, X3, Kind, Source, check_error
from tests.support import check_refusals, function_kind, operator_kind, poly_kind, prime_kind, value_kind

READS = (read_poly, read_function, read_operator, read_word)
SIXTY = "1" * 60


def text_kind(good):
    """Values that are no texts at all."""
    return Kind(good, ParseError, [value for value in KINDS if not isinstance(value, str)] + ["x" * 3001, " " * 3001])


def slow_signs(text):
    """The pairs of a spot and a sign, by regular steps."""
    found = []
    for spot, sign in enumerate(text):
        if sign == " ":
            continue
        if sign.isdigit() and spot and text[spot - 1].isdigit():
            found[-1] = (found[-1][0], found[-1][1] + sign)
        else:
            found.append((spot, sign))
    return found


class Samples(unittest.TestCase):
    def setUp(self):
        self.source = Source(221)

    def spot(self, call, prime, text):
        """The spot of the error."""
        return check_error(self, ParseError, call, [prime, text], {}).spot

    def blanks(self, text):
        """The text with blanks drawn between its signs."""
        return "".join(" " * self.source.number(0, 2) + sign for _, sign in slow_signs(text)) + " " * self.source.number(0, 2)


class KindsTest(Samples):
    def test_constants(self):
        self.assertEqual((MOST_TEXT, MAX_POWER, MAX_SLOPES), (3000, 60, 8))

    def test_refusals(self):
        check_refusals(self, write_poly, [prime_kind(), poly_kind((1,))])
        check_refusals(self, write_function, [function_kind(X3)])
        check_refusals(self, write_operator, [operator_kind(D3)])
        for call, good in zip(READS, ("x", "x", "D", "D")):
            check_refusals(self, call, [prime_kind(), text_kind(good)])
        check_refusals(self, is_written, [prime_kind(), value_kind("0")])

    def test_what_is_no_text(self):
        for bad in text_kind("x").bad:
            for call in READS:
                self.assertEqual(self.spot(call, 3, bad), 0)
            waiting = signs(bad)
            self.assertEqual(check_error(self, ParseError, next, [waiting], {}).spot, 0)

    def test_lengths(self):
        for call, text in ((read_poly, "x"), (read_function, "1"), (read_operator, "D"), (read_word, "D")):
            self.assertEqual(call(3, text + " " * 2999), call(3, text))
            self.assertEqual(call(3, " " * 2999 + text), call(3, text))
            for long in (text + " " * 3000, " " * 3000 + text, "?" * 3001):
                self.assertEqual(self.spot(call, 3, long), 0)
        self.assertEqual(read_poly(2, "+".join(["x"] * 1500) + " "), ())
        self.assertEqual(self.spot(read_poly, 2, "+".join(["x"] * 1500) + "+"), 3000)
        self.assertEqual(self.spot(read_poly, 2, "+".join(["x"] * 1501)), 0)
        self.assertEqual(len(list(signs("x" * 3000))), 3000)

    def test_long_texts_written(self):
        for prime in PRIMES:
            long = Function(prime, self.source.poly(prime, 60), self.source.poly(prime, 60))
            self.assertEqual(write_function(long), str(long))
            operator = Operator(prime, (long * long + long,) * 9)
            self.assertGreater(len(str(operator)), 3000)
            self.assertEqual(check_error(self, TooMany, write_operator, [operator], {}).limit, 3000)
            while len(str(long)) <= 3000:
                long = long * long + long
            self.assertEqual(check_error(self, TooMany, write_function, [long], {}).limit, 3000)

    def test_just_as_long_as_can_be(self):
        """Texts of 3000 characters are written, those of 3001 are not."""
        seen = set()
        for terms in range(1, 25):
            for twos in range(terms + 1):
                top = (0,) * 10 + (1,) * (terms - twos) + (2,) * twos
                operator = Operator(3, (Function(3, (1,) * 61, (1,)),) * 7 + (Function(3, top, (1,)),))
                text = str(operator)
                seen.add(len(text) - 3000)
                if len(text) <= 3000:
                    self.assertEqual(write_operator(operator), text)
                    self.assertEqual(read_operator(3, text), operator)
                else:
                    check_error(self, TooMany, write_operator, [operator], {})
        self.assertLessEqual({0, 1}, seen)


class SignsTest(Samples):
    def test_22_1_signs(self):
        for text in ("", "   ", "x", " 12x^3 ", "D^2*(x)/(1)+-", "0 0 1", "007", SIXTY + "1", "12 34x56", "((((", "xD"):
            self.assertEqual(list(signs(text)), slow_signs(text))

    def test_what_is_no_sign(self):
        for bad in ("y", "d", "X", ".", ",", "\t", "\n", "[", "=", "_", "\u00b2", "\u0663", "'"):
            self.assertEqual(check_error(self, ParseError, list, [signs(bad)], {}).spot, 0)
            waiting = signs(f"1 {bad} x")
            self.assertEqual(next(waiting), (0, "1"))
            self.assertEqual(check_error(self, ParseError, next, [waiting], {}).spot, 2)
            self.assertEqual(self.spot(read_poly, 3, f"x + {bad}"), 4)
            self.assertEqual(self.spot(read_poly, 3, f"x{bad}"), 1)
            self.assertEqual(self.spot(read_operator, 3, f"D {bad}"), 2)
            self.assertEqual(self.spot(read_word, 3, f"D* {bad}"), 3)
            self.assertEqual(self.spot(read_function, 3, f"({bad}"), 1)

    def test_the_first_error_counts(self):
        for call, text, spot in ((read_poly, "x x ?", 2), (read_poly, "x ? x x", 2), (read_function, "(1)/(0) ?", 6),
                                 (read_function, "(1)/(0?)", 6), (read_word, "D^8*D ?", 4), (read_word, "D^8*D^ ?", 7),
                                 (read_operator, "D^9 ?", 2), (read_operator, "D^ ?9", 3)):
            self.assertEqual(self.spot(call, 2, text), spot)


class ReadTest(Samples):
    def test_22_2_polynomials(self):
        rows = [("0", ()), ("1", (1,)), ("3", ()), ("-1", (2,)), ("x", (0, 1)), ("x^1", (0, 1)), ("x^0", (1,)), ("2x", (0, 2)),
                ("-x", (0, 2)), ("5 x^2 - x + x^2", (0, 2)), ("x + x + x", ()), ("1 - 1", ()), ("x^60", (0,) * 60 + (1,)),
                ("007 x^002", (0, 0, 1)), ("x^2 + 1 - x", (1, 2, 1)), ("0 x^60", ()), ("x ^ 000060", (0,) * 60 + (1,)),
                (SIXTY + "x", ()), (SIXTY[1:] + "2 x", (0, 1)), ("0" * 60, ()), ("- 0 - 0", ()), ("4-4x", (1, 2))]
        for text, due in rows:
            self.assertEqual(read_poly(3, text), tuple(number % 3 for number in due))
            for _ in range(5):
                self.assertEqual(read_poly(3, self.blanks(text)), tuple(number % 3 for number in due))

    def test_22_2_functions(self):
        rows = [("x", X3), ("(x)", X3), ("(1)/(x)", ONE // X3), ("(-1)/(-x)", ONE // X3), ("(x) / (x + x^3)", ONE // (ONE + X3 ** 2)),
                ("0", NO), ("(0)", NO), ("(3)/(1)", NO), ("(2x)/(4)", X3 + X3), ("(x - x)/(x)", NO), ("-x + 2", ONE + ONE - X3),
                ("(1)/(3 + x)", ONE // X3)]
        for text, due in rows:
            self.assertEqual(read_function(3, text), due)
            self.assertEqual(read_function(3, self.blanks(text)), due)

    def test_22_2_operators(self):
        rows = [("0", EMPTY3), ("D", D3), ("D^0", Operator.times(ONE)), ("D^8", D3 ** 8), ("(x)", Operator.times(X3)),
                ("(x) D", D3.led(X3)), ("((1)/(x)) D + D^2", LOGS), ("D - D", EMPTY3), ("-D", -D3), ("- (x) D^2 - 0", -(D3 * D3).led(X3)),
                ("0 + D", D3), ("0-0", EMPTY3), ("D + D + D", EMPTY3), ("(0) D^8 + (1) D", D3), ("D^2 + (x) + D", Operator(3, (X3, ONE, ONE))),
                ("(1) D + (x - 1) D", D3.led(X3)), ("((x)) D^1", D3.led(X3)), ("(-x)", Operator.times(-X3)), ("(1)D^01", D3)]
        for text, due in rows:
            self.assertEqual(read_operator(3, text), due)
            self.assertEqual(read_operator(3, self.blanks(text)), due)

    def test_22_2_words(self):
        times = Operator.times(X3)
        rows = [("x", times), ("x^2", times * times), ("D", D3), ("D^0", Operator.times(ONE)), ("x^0", Operator.times(ONE)),
                ("D * x", D3 * times), ("x*D", times * D3), ("(D)", D3), ("(0)", EMPTY3), ("(0) * D", EMPTY3),
                ("(D + (x)) * (D - (x))", (D3 + times) * (D3 - times)), ("D^4*x*D^4", D3 ** 4 * times * D3 ** 4),
                ("D^8 * D^0 * D^0 * x", D3 ** 8 * times), ("(D^8) * (D^8) * D^8", D3 ** 8 * D3 ** 8 * D3 ** 8),
                ("(-D) * x^60", -D3 * Operator.times((X3 ** 20) ** 3)), ("(((1)/(x)) D + D^2)", LOGS),
                ("(D) * ((x)) * (D)", D3 * times * D3), ("D*" * 7 + "D", D3 ** 8)]
        for text, due in rows:
            self.assertEqual(read_word(3, text), due)
            self.assertEqual(read_word(3, self.blanks(text)), due)

    def test_22_3_words_from_the_left(self):
        for prime in PRIMES:
            for _ in range(12):
                factors, texts = [], []
                room = 8
                for _ in range(self.source.number(1, 5)):
                    kind = self.source.number(0, 2)
                    many = self.source.number(0, min(room, 3))
                    if kind == 0:
                        texts.append(f"x^{many}")
                        factors.append(Operator.times(Function.letter(prime) ** many))
                    elif kind == 1:
                        texts.append(f"D^{many}")
                        factors.append(Operator.slopes(prime, many))
                        room -= many
                    else:
                        factors.append(self.source.operator(prime, self.source.number(-1, 2)))
                        texts.append(f"({factors[-1]})")
                total = factors[0]
                for factor in factors[1:]:
                    total = total * factor
                self.assertEqual(read_word(prime, self.blanks("*".join(texts))), total)

    def test_long_words(self):
        for prime in PRIMES:
            self.assertEqual(read_word(prime, "x*" * 1499 + "x").head.degree, 1500)
            self.assertEqual(read_word(prime, "*".join(["(D^8)"] * 500)).degree, 4000)
            self.assertEqual(read_word(prime, "*".join(["(0)"] * 750)), Operator(prime, ()))

    def test_22_3_numbers_modulo_the_prime(self):
        for prime in PRIMES:
            for number in (0, 1, prime, prime + 1, 10 ** 59 + 7):
                self.assertEqual(read_poly(prime, str(number)), (number % prime,) if number % prime else ())
                self.assertEqual(read_poly(prime, f"-{number} x^3"), (0, 0, 0, -number % prime) if number % prime else ())


class SpotsTest(Samples):
    def check_rows(self, call, rows):
        for text, spot in rows:
            self.assertEqual(self.spot(call, 3, text), spot, text)

    def test_polynomials(self):
        self.check_rows(read_poly, [
            ("", 0), ("   ", 3), ("-", 1), ("- ", 2), ("+x", 0), ("x +", 3), ("x + ", 4), ("x -", 3), ("x + - x", 4), ("--x", 1),
            ("x^", 2), ("x ^ ", 4), ("x^61", 2), ("x^ 100", 3), ("x^-1", 2), ("x^x", 2), ("xx", 1), ("x 2", 2), ("2 2", 2),
            ("2*x", 1), ("x*x", 1), ("D", 0), ("x + D", 4), ("2 D", 2), ("(x)", 0), ("x)", 1), ("x/x", 1), ("x^2^2", 3),
            ("1" * 61, 0), ("x + " + "0" * 61, 4), ("x^" + "0" * 61, 2), ("x^" + "0" * 59 + "9 x", 63), ("2^2", 1), ("x2", 1)])

    def test_functions(self):
        self.check_rows(read_function, [
            ("", 0), ("(", 1), ("()", 1), ("(x", 2), ("(x ", 3), ("(x))", 3), ("(x)x", 3), ("(x) + 1", 4), ("(x)/", 4), ("(x)/x", 4),
            ("(x)/1", 4), ("(x)/(", 5), ("(x)/()", 5), ("(x)/(x", 6), ("(x)/(x))", 7), ("(1)/(3)", 6), ("(1)/( 3 - 3x )", 13),
            ("(1)/(x - x)", 10), ("(1)/(0", 6), ("(1)/(0 D)", 7), ("(1)/(0 / x)", 7), ("(1)/(x)/(x)", 7), ("((x))", 1), ("x/x", 1),
            ("1 + (x)", 4), ("-(x)", 1), ("(1)/(0) + x", 6), ("x (1)", 2), ("(x^61)", 3), ("(1)/(x^61 - x^61)", 7)])

    def test_operators(self):
        self.check_rows(read_operator, [
            ("", 0), ("x", 0), ("1", 0), ("00", 0), ("0 0", 2), ("0 D", 2), ("0D", 1), ("-", 1), ("D +", 3), ("D + x", 4), ("DD", 1),
            ("D D", 2), ("D^", 2), ("D^9", 2), ("D^09", 2), ("D^ 10", 3), ("D^x", 2), ("D^" + "0" * 61, 2), ("D*D", 1), ("D (x)", 2),
            ("(x)(x)", 3), ("(x) x", 4), ("(x) D D", 6), ("(x) D^9", 6), ("(x)/(x) D", 3), ("((1)/(3)) D", 7), ("(D)", 1), ("()", 1),
            ("(x", 2), ("((x)", 4), ("(((x)))", 2), ("(x + (1))", 5), ("+D", 0), ("D + + D", 4), ("D - - D", 4), ("1 D", 0), ("D^2^2", 3),
            ("(x))", 3), ("D)", 1), ("0^2", 1), ("(1)/(x)", 3)])

    def test_words(self):
        self.check_rows(read_word, [
            ("", 0), ("0", 0), ("1", 0), ("-D", 0), ("D -", 2), ("D + D", 2), ("D D", 2), ("Dx", 1), ("D*", 2), ("D**D", 2), ("*D", 0),
            ("x^61", 2), ("x*2", 2), ("(x)", 1), ("()", 1), ("(D", 2), ("(D))", 3), ("(D)(D)", 3), ("(D) D", 4), ("D^9", 2),
            ("D^8*D", 4), ("D^8*D^1", 6), ("D^8*D^0*D", 8), ("D^5*D^4", 6), ("D^5*D^ 4", 7), ("D^5*(D^8)*D^4", 12), ("D*" * 8 + "D", 16),
            ("D^8*D*", 4), ("D^8*D + D", 4), ("D^8*D^", 6), ("D^8*D^x", 6), ("D^8* D", 5), ("D^8*D ^ 2", 8), ("D^7*D*D*D", 6), ("(D^9)", 3),
            ("(D) * ((1)/(3))", 10), ("(D) * (((1)/(3)))", 14), ("(((1)/(3)))", 8), ("((1)/(3))", 4), ("D^8*x*D", 6), ("(D*D)", 2), ("D^-1", 2), ("x/x", 1)])

    def test_no_text_of_the_form_goes_on(self):
        """Ahead of the spot the text can be gone on with, and with the sign at the spot it cannot."""
        alphabet = ("0", "1", "3", "9", "x", "D", "^", "+", "-", "(", ")", "/", "*")
        endings = ("", "1", ")", "1)", "x)", "x))", "x)))", "1)/(x)", "1)/(x))", "x)/(x))", "D", "D)", "D))", "0", "0)", "1)/(1)))",
                   "(1)", "(1))", "(1)/(1)", "(1)/(1))", ")/(x)", "/(x)", "(x)", "(x))", "((x))", "1))", "1)))", "^0", "^0)", "x",
                   "(x)/(x))", "(x)/(x)))", "+x)", "+x))", "+x", "+D", "+D)", "+1)", "+1))", "+1)))")
        for call in READS:
            for _ in range(500):
                text = "".join(self.source.choice(alphabet) for _ in range(self.source.number(0, 7)))
                try:
                    call(3, text)
                    continue
                except ParseError as wrong:
                    spot = wrong.spot
                self.assertLessEqual(spot, len(text))
                ahead = text[:spot]
                if not ahead.endswith(tuple("0123456789")) or not text[spot:spot + 1].isdigit():
                    self.assertTrue(any(self.can_be_read(call, ahead + ending) for ending in endings), (call, text, spot))
                if spot < len(text):
                    sign = next(sign for at, sign in slow_signs(text) if at == spot)
                    for ending in endings:
                        if not (sign.isdigit() and ending[:1].isdigit()):
                            self.assertFalse(self.can_be_read(call, ahead + sign + ending) and not self.is_told_late(text, spot))

    def is_told_late(self, text, spot):
        """A D that is one too many could still have the number 0."""
        return text[spot] == "D"

    def can_be_read(self, call, text):
        try:
            call(3, text)
        except ParseError:
            return False
        return True


class WrittenTest(Samples):
    def test_22_4_polynomials(self):
        for prime in PRIMES:
            for _ in range(20):
                poly = self.source.poly(prime, self.source.number(-1, 60))
                text = write_poly(prime, poly)
                self.assertEqual(read_poly(prime, text), poly)
                self.assertEqual(text, self.slow_text(poly))
        self.assertEqual([write_poly(3, ()), write_poly(3, (1,)), write_poly(5, (2, 1, 0, 4))], ["0", "1", "2 + x + 4 x^3"])

    def slow_text(self, poly):
        terms = []
        for power, number in enumerate(poly):
            letter = {0: "", 1: "x"}.get(power, f"x^{power}")
            if number:
                terms.append(letter if number == 1 and letter else f"{number} {letter}".strip())
        return " + ".join(terms) or "0"

    def test_22_4_functions_and_operators(self):
        for prime in PRIMES:
            for _ in range(20):
                function = self.source.function(prime, 8, 6)
                self.assertEqual(write_function(function), str(function))
                self.assertEqual(read_function(prime, write_function(function)), function)
                operator = self.source.operator(prime, self.source.number(-1, 8))
                text = write_operator(operator)
                self.assertEqual(text, str(operator))
                self.assertEqual(read_operator(prime, text), operator)
                self.assertIs(is_written(prime, text), True)

    def test_written_parts(self):
        self.assertEqual(write_function(NO), "0")
        self.assertEqual(write_operator(EMPTY3), "0")
        self.assertEqual(write_operator(LOGS), "((1)/(x)) D + (1) D^2")
        self.assertEqual(write_operator(D2 * Operator.times(X2)), "(1) + (x) D")

    def test_is_written(self):
        for value in KINDS:
            self.assertIs(is_written(3, value), False)
        right = ("0", "(1)", "(x)", "(1) D", "(2 + x) + (x^60) D^8", "((1)/(x)) + (1) D^2", "((1 + x)/(1 + x^2)) D^3", "(2 x) D")
        for text in right:
            self.assertIs(is_written(3, text), True)
            for wrong in (text + " ", " " + text, text.replace("(", "( ", 1), text + "+0", text + " + 0", "-" + text):
                self.assertIs(is_written(3, wrong), wrong == text)
        for wrong in ("", "D", "(1)D", "(1) D^1", "(1) D^0", "(1) D^9", "(0)", "(0) D", "(3)", "(4 x)", "(1 x)", "(x^1)", "(x^0)", "(x + 1)",
                      "(1) D + (1)", "(x^61)", "((2)/(2))", "((x)/(x^2))", "((1)/(2 x))", "((1)/(1))", "((x)) D", "(x) + (x)", "(01)",
                      "(x) D^02", "(1 +x)", "(1+x)", "(1 + x) D - (1) D^2", "(2 - x)", "x", "1", "(x)/(x)", "(1) D  + (1) D^2", "00",
                      "(1)\n", "(1) d", "((0)/(x))"):
            self.assertIs(is_written(3, wrong), False)
        self.assertIs(is_written(2, "(2)"), False)
        self.assertIs(is_written(5, "(2)"), True)
        self.assertIs(is_written(3, "(1) D^8"), True)

    def test_long_written_texts(self):
        """Texts of any length are judged, also those that are too long to be read or written."""
        for prime in PRIMES:
            long = Function(prime, (prime - 1,) * 61, (1,) + (0,) * 59 + (1,))
            operator = Operator(prime, tuple(long + Function.number(prime, number) for number in range(9)))
            text = str(operator)
            self.assertGreater(len(text), 3000)
            self.assertIs(is_written(prime, text), all(max(len(entry.top), len(entry.bottom)) <= 61 for entry in operator))
            self.assertEqual(self.spot(read_operator, prime, text), 0)
            self.assertIs(is_written(prime, text + " "), False)
        self.assertIs(is_written(3, "(" * 5000), False)
        self.assertIs(is_written(3, "9" * 5000), False)
        self.assertIs(is_written(3, " " * 5000 + "0"), False)

    def test_written_texts_are_single(self):
        """Of all short texts just one is the written one of each operator."""
        seen = {}
        alphabet = ("0", "1", "2", "x", "D", "(", ")", " ", "^", "+")
        for size in range(1, 6):
            for letters in itertools.product(alphabet, repeat=size):
                text = "".join(letters)
                if is_written(3, text):
                    operator = read_operator(3, text)
                    key = tuple((entry.top, entry.bottom) for entry in operator)
                    self.assertNotIn(key, seen)
                    seen[key] = text
        self.assertEqual(sorted(seen.values()), ["(1)", "(1) D", "(2 x)", "(2)", "(2) D", "(x)", "(x) D", "(x^2)", "0"])


class SayingsTest(unittest.TestCase):
    def test_22_6(self):
        self.assertNotEqual(read_word(3, "x * D"), read_word(3, "D * x"))
        self.assertEqual(read_poly(3, "1 + x - x"), (1,))
        self.assertNotEqual(write_poly(3, read_poly(3, "1 + x - x")), "1 + x - x")


if __name__ == "__main__":
    unittest.main()
