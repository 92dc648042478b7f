"""[21.1] to [21.4]: desks."""

import unittest

from slopewords.desk.desks import MAX_CLAIMS, MAX_DEGREE, MAX_KEPT, MAX_TOP, Desk
from slopewords.errors import InvalidFunction, InvalidName, InvalidOperation, InvalidOperator
from slopewords.errors import NothingToUndo, Refused, TooMany, UnknownName
from slopewords.func.functions import Function
from slopewords.oper.changes import tilted, turned_over
from slopewords.oper.operators import Operator
from tests.support import BAR, D2, D3, EMPTY3, KINDS, LOGS, NO, ONE, PRIMES, X2, X3, Source, check_error, check_refusals
from tests.support import Kind, function_kind, number_kind, operator_kind, prime_kind

EULER = Operator(3, (NO, X3))
UNIT3 = Operator.times(ONE)
NAMES = ("a", "b", "c", "d", "e", "f", "g", "h")
WRONG_NAMES = [value for value in KINDS if value != "x"] + [
    "", "A", "a1", "a b", " a", "a_b", "abcdefghi", "fA", "f\n", 1, ("f",), b"f", "\u00e4"]


def state(desk):
    """All that can be seen of a desk."""
    return (desk.prime, desk.names, [str(desk[name]) for name in desk], [shown(claim) for claim in desk.claims],
            desk.deeds, len(desk), str(desk))


def shown(claim):
    return tuple(str(part) for part in claim)


def full_desk():
    """A desk with several operators, and one claim of each kind."""
    desk = Desk(3)
    for name, operator in (("d", D3), ("logs", LOGS), ("euler", EULER), ("head", Operator(3, (ONE // X3, ONE))),
                           ("flat", D3 * D3)):
        desk.put(name, operator)
    for claim in CLAIMS:
        desk.claim(claim)
    return desk


CLAIMS = (
    ("degree", "logs", 2), ("makes", "logs", X3, ONE // X3), ("product", "head", "d", "logs"), ("factor", "logs", "d"),
    ("flat", "flat"), ("norms", "logs", "flat"), ("leads", "logs", "d", "euler"))
UNTRUE = (
    ("degree", "logs", 1), ("degree", "logs", -1), ("makes", "logs", X3, X3), ("product", "d", "head", "logs"),
    ("factor", "logs", "head"), ("factor", "d", "logs"), ("flat", "logs"), ("norms", "logs", "d"),
    ("leads", "d", "logs", "euler"), ("leads", "logs", "d", "logs"))


class KindsTest(unittest.TestCase):
    def test_constants(self):
        self.assertEqual((MAX_KEPT, MAX_CLAIMS, MAX_DEGREE, MAX_TOP), (8, 10, 6, 40))

    def test_refusals(self):
        check_refusals(self, Desk, [prime_kind()])
        name = Kind("f", InvalidName, WRONG_NAMES)
        check_refusals(self, Desk(3).put, [name, operator_kind(D3)])
        check_refusals(self, Desk(3).tilt_all, [function_kind(X3)])
        check_refusals(self, Desk(3).undo, [], "times", number_kind(0, low=0))
        check_refusals(self, Desk(3).redo, [], "times", number_kind(0, low=0))

    def test_sequence_of_errors(self):
        desk = Desk(3)
        check_error(self, InvalidName, desk.put, ["F", None], {})
        check_error(self, InvalidOperator, desk.put, ["f", None], {})
        check_error(self, InvalidOperation, desk.put, ["f", D2 ** 8], {})
        check_error(self, InvalidOperation, desk.put, ["f", BAR], {})
        check_error(self, InvalidFunction, desk.tilt_all, [D3], {})
        check_error(self, InvalidOperation, desk.tilt_all, [X2], {})
        check_error(self, InvalidName, desk.multiply, ["", "f", "g"], {})
        for wanted in [*WRONG_NAMES, "g"]:
            self.assertIs(check_error(self, UnknownName, desk.multiply, ["f", wanted, "g"], {}).wanted, wanted)
            self.assertIs(check_error(self, UnknownName, desk.drop, [wanted], {}).wanted, wanted)
            self.assertIs(check_error(self, UnknownName, desk.__getitem__, [wanted], {}).wanted, wanted)
        desk.put("f", D3)
        self.assertEqual(check_error(self, UnknownName, desk.multiply, ["f", "f", "g"], {}).wanted, "g")
        self.assertEqual(desk.deeds, 1)

    def test_sizes(self):
        for prime in PRIMES:
            one, letter = Function.number(prime, 1), Function.letter(prime)
            desk = Desk(prime)
            for operator in (Operator.slopes(prime, 6), Operator.times((letter ** 20) ** 2), Operator(prime, ()),
                             Operator(prime, (one // (letter ** 20) ** 2, one))):
                desk.put("f", operator)
            before = state(desk)
            for operator, limit in ((Operator.slopes(prime, 7), 6), (Operator.times((letter ** 20) ** 2 * letter), 40),
                                    (Operator(prime, (one, one // letter ** 20 // letter ** 20 // letter)), 40)):
                self.assertEqual(check_error(self, TooMany, desk.put, ["f", operator], {}).limit, limit)
            self.assertEqual(state(desk), before)

    def test_a_ninth_operator(self):
        desk = Desk(3)
        for name in NAMES:
            desk.put(name, D3)
        self.assertEqual(check_error(self, TooMany, desk.put, ["i", D3], {}).limit, 8)
        self.assertEqual(check_error(self, TooMany, desk.put, ["i", D3 ** 8], {}).limit, 8)
        self.assertEqual(check_error(self, TooMany, desk.multiply, ["i", "a", "b"], {}).limit, 8)
        self.assertEqual(desk.put("h", LOGS), 9)
        self.assertEqual(desk.multiply("a", "h", "b"), 10)
        self.assertEqual(check_error(self, TooMany, desk.put, ["a", D3 ** 7], {}).limit, 6)
        desk.drop("c")
        desk.put("i", D3)
        self.assertEqual((len(desk), desk.names), (8, ("a", "b", "d", "e", "f", "g", "h", "i")))

    def test_products_that_are_too_great(self):
        desk = Desk(3)
        desk.put("f", D3 ** 4)
        desk.put("g", Operator.times(X3 ** 20))
        desk.multiply("h", "g", "g")
        self.assertEqual(check_error(self, TooMany, desk.multiply, ["h", "f", "f"], {}).limit, 6)
        self.assertEqual(check_error(self, TooMany, desk.multiply, ["h", "h", "g"], {}).limit, 40)
        self.assertEqual(desk["h"], Operator.times((X3 ** 20) ** 2))

    def test_names(self):
        desk = Desk(3)
        for name in ("a", "z", "abcdefgh", "degree"):
            desk.put(name, D3)
        for value in WRONG_NAMES:
            self.assertIs(value in desk, False)
        self.assertIs("b" in desk, False)
        self.assertIs("z" in desk, True)
        self.assertEqual(list(desk), ["a", "abcdefgh", "degree", "z"])
        self.assertEqual(desk.names, ("a", "abcdefgh", "degree", "z"))
        self.assertEqual((len(desk), len(Desk(3)), Desk(3).names, Desk(3).claims, Desk(3).deeds), (4, 0, (), (), 0))


class ClaimsTest(unittest.TestCase):
    def test_true_ones(self):
        desk = full_desk()
        self.assertEqual(desk.claims, CLAIMS)
        self.assertEqual(desk.deeds, 12)
        self.assertEqual(str(desk), "desk modulo 3 of 5 operators, 7 claims")

    def test_untrue_ones(self):
        desk = full_desk()
        before = state(desk)
        for claim in UNTRUE:
            self.assertEqual(check_error(self, Refused, desk.claim, [claim], {}).reason, claim)
        self.assertEqual(state(desk), before)

    def test_what_is_no_claim(self):
        desk = full_desk()
        wrong = [
            *KINDS, ("degree",), ("degree", "d"), ("degree", "d", 7), ("degree", "d", -2), ("degree", "d", True),
            ("degree", "d", None), ("degree", "d", 1, 1), ["degree", "d", 1], ("Degree", "d", 1), ("degree", "D", 1),
            ("degree", "abcdefghi", 1), ("degree", D3, 1), ("makes", "d", X3), ("makes", "d", X3, 1), ("makes", "d", X2, X2),
            ("makes", "d", X3, X2), ("makes", "d", X3, ONE, ONE), ("makes", "", X3, ONE), ("product", "d", "d"),
            ("product", "d", "d", "flat", "d"), ("product", "d", "d", D3), ("factor", "d"), ("factor", "d", None),
            ("flat",), ("flat", "d", "d"), ("flat", 1), ("norms", "d"), ("norms", "d", "d", "d"), ("leads", "d", "d"),
            ("leads", "d", "d", "d", "d"), ("is", "d"), (1, "d"), (("flat",), "d"), ("degree", "d", 10 ** 60)]
        for claim in wrong:
            check_error(self, InvalidOperation, desk.claim, [claim], {})
            check_error(self, InvalidOperation, desk.let_go, [claim], {})

    def test_sequence_of_errors(self):
        desk = full_desk()
        for claim in CLAIMS:
            check_error(self, InvalidOperation, desk.claim, [claim], {})
        for claim in UNTRUE:
            check_error(self, InvalidOperation, desk.let_go, [claim], {})
        self.assertEqual(check_error(self, UnknownName, desk.claim, [("norms", "d", "z")], {}).wanted, "z")
        self.assertEqual(check_error(self, UnknownName, desk.claim, [("leads", "y", "d", "z")], {}).wanted, "y")
        self.assertEqual(check_error(self, UnknownName, desk.claim, [("degree", "z", 6)], {}).wanted, "z")
        for degree in range(3):
            desk.put("d" * (degree + 2), D3 ** degree)
            desk.claim(("degree", "d" * (degree + 2), degree))
        for claim in (("degree", "d", 1), ("degree", "zz", 1), ("degree", "d", 2)):
            self.assertEqual(check_error(self, TooMany, desk.claim, [claim], {}).limit, 10)
        check_error(self, InvalidOperation, desk.claim, [CLAIMS[0]], {})
        check_error(self, InvalidOperation, desk.claim, [("degree", "d", 7)], {})
        desk.let_go(CLAIMS[0])
        desk.claim(("degree", "d", 1))
        self.assertEqual(desk.claims[-1], ("degree", "d", 1))

    def test_degrees(self):
        desk = Desk(3)
        desk.put("none", EMPTY3)
        desk.put("six", D3 ** 6)
        for claim in (("degree", "none", -1), ("degree", "six", 6)):
            desk.claim(claim)
        self.assertEqual(desk.claims, (("degree", "none", -1), ("degree", "six", 6)))
        self.assertEqual(check_error(self, Refused, desk.claim, [("degree", "none", 0)], {}).reason, ("degree", "none", 0))

    def test_factors(self):
        """The empty operator is no factor; each other one is a factor of it."""
        desk = Desk(3)
        desk.put("none", EMPTY3)
        desk.put("d", D3)
        desk.claim(("factor", "none", "d"))
        for claim in (("factor", "d", "none"), ("factor", "none", "none")):
            self.assertEqual(check_error(self, Refused, desk.claim, [claim], {}).reason, claim)

    def test_what_raises_an_error(self):
        """These claims are not true, and not refused otherwise, where what is asked raises an error."""
        desk = Desk(3)
        desk.put("none", EMPTY3)
        desk.put("one", UNIT3)
        desk.put("d", D3)
        desk.put("great", D3 ** 5)
        desk.put("long", Operator.factor(X3 ** 20 * X3 ** 5))
        desk.put("four", D3 ** 4)
        for claim in (("flat", "none"), ("flat", "one"), ("flat", "great"), ("flat", "long"), ("norms", "none", "none"),
                      ("norms", "great", "great"), ("norms", "long", "long"), ("norms", "d", "none"),
                      ("leads", "one", "d", "none"), ("leads", "four", "four", "one"), ("leads", "long", "long", "one"),
                      ("leads", "none", "none", "none"), ("leads", "d", "great", "none")):
            self.assertEqual(check_error(self, Refused, desk.claim, [claim], {}).reason, claim)
        for claim in (("norms", "one", "one"), ("norms", "four", "four"), ("leads", "d", "d", "one"),
                      ("leads", "d", "d", "none"), ("product", "none", "long", "none"), ("factor", "great", "four")):
            desk.claim(claim)
        self.assertEqual(len(desk.claims), 6)


class DeedsTest(unittest.TestCase):
    def refused(self, desk, call, positional, claim):
        before, others = state(desk), dict((name, desk[name]) for name in desk)
        self.assertEqual(check_error(self, Refused, call, positional, {}).reason, claim)
        self.assertEqual(state(desk), before)
        self.assertEqual(dict((name, desk[name]) for name in desk), others)

    def test_refused_deeds(self):
        """The first claim that would not be true, in the sequence in which they were made."""
        desk = full_desk()
        self.refused(desk, desk.put, ["logs", D3], CLAIMS[0])
        self.refused(desk, desk.put, ["logs", D3 * D3], CLAIMS[1])
        self.refused(desk, desk.put, ["head", D3], CLAIMS[2])
        self.refused(desk, desk.put, ["d", Operator.factor(X3)], CLAIMS[2])
        self.refused(desk, desk.put, ["flat", LOGS], CLAIMS[4])
        self.refused(desk, desk.put, ["flat", D3], CLAIMS[5])
        self.refused(desk, desk.put, ["euler", D3], CLAIMS[6])
        self.refused(desk, desk.multiply, ["logs", "d", "d"], CLAIMS[1])
        self.refused(desk, desk.multiply, ["euler", "d", "d"], CLAIMS[6])
        self.refused(desk, desk.tilt_all, [X3], CLAIMS[1])
        self.refused(desk, desk.turn_all, [], CLAIMS[1])
        self.refused(desk, desk.drop, ["logs"], CLAIMS[0])
        self.refused(desk, desk.drop, ["head"], CLAIMS[2])
        self.refused(desk, desk.drop, ["d"], CLAIMS[2])
        self.refused(desk, desk.drop, ["flat"], CLAIMS[4])
        self.refused(desk, desk.drop, ["euler"], CLAIMS[6])
        desk.let_go(CLAIMS[0])
        self.refused(desk, desk.drop, ["logs"], CLAIMS[1])
        desk.claim(CLAIMS[0])
        self.refused(desk, desk.drop, ["logs"], CLAIMS[1])

    def test_deeds_that_are_not_refused(self):
        desk = full_desk()
        self.assertEqual(desk.put("euler", EULER.led(X3 ** 3)), 13)
        self.assertEqual(desk.put("logs", LOGS), 14)
        self.assertEqual(desk.put("further", D3), 15)
        self.assertEqual(desk.drop("further"), 16)
        self.assertEqual(desk.let_go(CLAIMS[1]), 17)
        self.assertEqual(desk.tilt_all(NO), 18)
        self.assertEqual(desk.tilt_all(ONE // X3), 19)
        self.assertEqual(desk["logs"], tilted(LOGS, ONE // X3))

    def test_put_and_multiply(self):
        desk = Desk(3)
        self.assertEqual([desk.put("d", D3), desk.put("x", Operator.times(X3)), desk.multiply("dx", "d", "x")], [1, 2, 3])
        self.assertEqual(desk["dx"], D3 * Operator.times(X3))
        self.assertEqual(desk.multiply("d", "d", "d"), 4)
        self.assertEqual(desk["d"], D3 * D3)
        self.assertEqual(desk["dx"], D3 * Operator.times(X3))

    def test_tilt_and_turn(self):
        desk = Desk(3)
        operators = {"d": D3, "logs": LOGS, "none": EMPTY3, "x": Operator.times(X3)}
        for name in operators:
            desk.put(name, operators[name])
        desk.tilt_all(X3 + ONE // X3)
        for name in operators:
            self.assertEqual(desk[name], tilted(operators[name], X3 + ONE // X3))
        desk.undo()
        desk.turn_all()
        for name in operators:
            self.assertEqual(desk[name], turned_over(operators[name]))
        desk.turn_all()
        self.assertEqual({name: desk[name] for name in desk}, operators)
        self.assertEqual(desk.deeds, 6)
        self.assertEqual((Desk(3).tilt_all(X3), Desk(3).turn_all()), (1, 1))

    def test_tilts_that_are_too_great(self):
        desk = Desk(3)
        desk.put("d", D3)
        desk.put("six", D3 ** 6)
        desk.put("bad", Operator.factor(X3))
        desk.claim(("makes", "bad", ONE, -X3))
        before = state(desk)
        for function in (X3 ** 7, (X3 ** 20) ** 2 * X3, ONE // X3 ** 7):
            self.assertEqual(check_error(self, TooMany, desk.tilt_all, [function], {}).limit, 40)
        self.assertEqual(check_error(self, Refused, desk.tilt_all, [X3 ** 6], {}).reason, ("makes", "bad", ONE, -X3))
        self.assertEqual(state(desk), before)
        desk = Desk(3)
        desk.put("f", Operator(3, (ONE, ONE // (X3 + ONE) ** 20 // (X3 + ONE) ** 20)))
        self.assertEqual(check_error(self, TooMany, desk.turn_all, [], {}).limit, 40)
        self.assertEqual(desk.deeds, 1)

    def test_21_4_what_tilting_keeps(self):
        desk = full_desk()
        desk.let_go(CLAIMS[1])
        for function in (ONE // X3, -ONE // X3, (X3 + X3) // (X3 ** 2 + ONE)):
            desk.tilt_all(function)
        self.assertEqual(len(desk.claims), 6)
        self.assertEqual(check_error(self, Refused, desk.tilt_all, [X3], {}).reason, ("flat", "flat"))
        desk.let_go(("flat", "flat"))
        desk.tilt_all(X3)
        self.assertEqual(len(desk.claims), 5)
        # Behind such a tilt the functions are too long for what "norms" and "leads" ask.
        self.assertEqual(check_error(self, Refused, desk.tilt_all, [X3 ** 13], {}).reason, ("norms", "logs", "flat"))

    def test_21_4_what_turning_over_keeps(self):
        desk = Desk(3)
        for name, operator in (("f", LOGS), ("g", D3 * D3), ("h", EULER)):
            desk.put(name, operator)
        for claim in (("degree", "f", 2), ("norms", "f", "g"), ("flat", "g")):
            desk.claim(claim)
        desk.turn_all()
        self.assertEqual(len(desk.claims), 3)
        desk.turn_all()
        desk.multiply("p", "h", "f")
        desk.claim(("product", "h", "f", "p"))
        self.assertEqual(check_error(self, Refused, desk.turn_all, [], {}).reason, ("product", "h", "f", "p"))

    def test_claims_about_others(self):
        """A name can be dropped when no claim has it, and claims are let go one by one."""
        desk = full_desk()
        for count, claim in enumerate(CLAIMS, start=1):
            self.assertEqual(desk.let_go(claim), 12 + count)
            self.assertNotIn(claim, desk.claims)
        for name in list(desk):
            desk.drop(name)
        self.assertEqual((desk.names, desk.claims, len(desk), list(desk)), ((), (), 0, []))


class UndoTest(unittest.TestCase):
    def test_undo_and_redo(self):
        desk = full_desk()
        deeds = desk.deeds
        states = [state(desk)]
        for count in range(1, deeds + 1):
            self.assertEqual(desk.undo(), deeds - count)
            states.append(state(desk))
        self.assertEqual((desk.names, desk.claims, desk.deeds), ((), (), 0))
        self.assertEqual(check_error(self, NothingToUndo, desk.undo, [], {}).steps, 1)
        for count in range(1, deeds + 1):
            self.assertEqual(desk.redo(), count)
            self.assertEqual(state(desk), states[deeds - count])
        self.assertEqual(check_error(self, NothingToUndo, desk.redo, [], {}).steps, 1)

    def test_several_at_once(self):
        desk = full_desk()
        whole = state(desk)
        self.assertEqual(desk.undo(times=5), 7)
        self.assertEqual(desk.undo(times=0), 7)
        self.assertEqual(desk.redo(times=0), 7)
        for steps in (8, 13, 10 ** 59):
            self.assertEqual(check_error(self, NothingToUndo, desk.undo, [], {"times": steps}).steps, steps)
        for steps in (6, 13, 10 ** 59):
            self.assertEqual(check_error(self, NothingToUndo, desk.redo, [], {"times": steps}).steps, steps)
        self.assertEqual(desk.deeds, 7)
        self.assertEqual(desk.redo(times=2), 9)
        self.assertEqual(desk.redo(times=3), 12)
        self.assertEqual(state(desk), whole)
        self.assertEqual(Desk(3).undo(times=0), 0)
        self.assertEqual(Desk(3).redo(times=0), 0)

    def test_a_new_deed_behind_a_deed_taken_back(self):
        desk = Desk(3)
        desk.put("f", D3)
        desk.put("g", LOGS)
        desk.undo()
        check_error(self, UnknownName, desk.drop, ["g"], {})
        check_error(self, InvalidName, desk.put, ["G", D3], {})
        self.assertEqual(desk.redo(), 2)
        desk.undo()
        self.assertEqual(desk.put("f", D3), 2)
        self.assertEqual(check_error(self, NothingToUndo, desk.redo, [], {}).steps, 1)
        self.assertEqual(desk.names, ("f",))
        desk.undo(times=2)
        self.assertEqual(desk.redo(times=2), 2)

    def test_refused_deeds_leave_what_can_be_done_again(self):
        desk = full_desk()
        desk.undo()
        check_error(self, Refused, desk.drop, ["logs"], {})
        self.assertEqual(desk.redo(), 12)

    def test_deeds_that_change_nothing(self):
        desk = Desk(3)
        desk.put("f", D3)
        for count, deed in enumerate((lambda: desk.put("f", D3), lambda: desk.tilt_all(NO), desk.turn_all, desk.turn_all),
                                     start=2):
            self.assertEqual(deed(), count)
        self.assertEqual(desk.undo(times=5), 0)
        self.assertEqual(len(desk), 0)

    def test_many_deeds(self):
        desk = Desk(2)
        for count in range(3000):
            desk.put("f", D2 if count % 2 else BAR)
        twin = desk.twin()
        self.assertEqual(desk.undo(times=2999), 1)
        self.assertEqual(desk["f"], BAR)
        self.assertEqual(desk.redo(times=2999), 3000)
        self.assertEqual(twin, desk)


class DuringTest(unittest.TestCase):
    def test_what_it_returns(self):
        desk = full_desk()
        before = state(desk)

        def change(inner):
            self.assertIs(inner, desk)
            inner.let_go(CLAIMS[2])
            inner.put("z", D3)
            inner.undo(times=4)
            inner.put("y", LOGS)
            return inner.names, inner.deeds

        self.assertEqual(desk.during(change), (("d", "euler", "flat", "head", "logs", "y"), 11))
        self.assertEqual(state(desk), before)
        self.assertIsNone(desk.during(lambda inner: None))

    def test_a_call_that_fails(self):
        desk = full_desk()
        desk.undo(times=2)
        before = state(desk)

        def fail(inner):
            inner.put("z", D3)
            inner.drop("nothing")

        self.assertEqual(check_error(self, UnknownName, desk.during, [fail], {}).wanted, "nothing")
        self.assertEqual(state(desk), before)
        self.assertEqual(desk.redo(times=2), 12)

        def other(inner):
            inner.undo(times=5)
            raise KeyError("mine")

        with self.assertRaises(KeyError):
            desk.during(other)
        self.assertEqual(desk.deeds, 12)

    def test_one_in_the_other(self):
        desk = Desk(3)
        desk.put("f", D3)

        def outer(inner):
            inner.put("g", LOGS)
            names = inner.during(lambda again: (again.drop("f"), again.names))
            return names, inner.names

        self.assertEqual(desk.during(outer), ((3, ("g",)), ("f", "g")))
        self.assertEqual((desk.names, desk.deeds), (("f",), 1))

    def test_what_can_be_done_again_stays(self):
        desk = Desk(3)
        desk.put("f", D3)
        desk.put("g", D3)
        desk.undo()
        desk.during(lambda inner: inner.put("h", D3))
        self.assertEqual((desk.redo(), desk.names), (2, ("f", "g")))


class TwinTest(unittest.TestCase):
    def test_twins(self):
        desk = full_desk()
        desk.undo()
        twin = desk.twin()
        self.assertEqual(state(twin), state(desk))
        self.assertTrue(twin == desk and not twin != desk)
        self.assertEqual(twin.redo(), 12)
        self.assertEqual(desk.deeds, 11)
        twin.undo(times=12)
        self.assertEqual((twin.names, len(desk)), ((), 5))
        twin.put("only", D3)
        self.assertNotIn("only", desk)
        self.assertEqual(desk.redo(), 12)
        desk.put("z", LOGS)
        self.assertNotIn("z", twin)

    def test_equality(self):
        one, other = full_desk(), full_desk()
        self.assertEqual(one, other)
        other.put("logs", LOGS)
        self.assertEqual(one, other)
        other.let_go(CLAIMS[0])
        self.assertNotEqual(one, other)
        other.claim(CLAIMS[0])
        self.assertNotEqual(one, other)
        self.assertEqual(set(map(shown, one.claims)), set(map(shown, other.claims)))
        other.undo(times=2)
        other.put("z", D3)
        self.assertNotEqual(one, other)
        self.assertNotEqual(Desk(2), Desk(3))
        self.assertEqual(Desk(2), Desk(2))
        for value in [*KINDS, "desk modulo 3 of 0 operators, 0 claims"]:
            self.assertFalse(Desk(3) == value)
            self.assertTrue(Desk(3) != value)

    def test_what_a_desk_returns_is_its_own(self):
        desk = full_desk()
        claims, names = desk.claims, desk.names
        desk.let_go(CLAIMS[0])
        desk.put("z", D3)
        self.assertEqual((claims, names), (CLAIMS, ("d", "euler", "flat", "head", "logs")))
        for name in desk:
            desk.put(name, desk[name])

    def test_text(self):
        self.assertEqual(str(Desk(7)), "desk modulo 7 of 0 operators, 0 claims")

    def test_no_operators(self):
        for call in (lambda desk: desk + desk, lambda desk: desk * 2, lambda desk: -desk, lambda desk: desk < desk):
            with self.assertRaises(TypeError):
                call(Desk(3))


class DrawnTest(unittest.TestCase):
    def test_drawn_deeds(self):
        """Each desk does what a plain list of states does, whatever is drawn."""
        for prime in PRIMES:
            source = Source(211 + prime)
            desk, past, later = Desk(prime), [({}, ())], []
            for _ in range(60):
                kept, told = past[-1]
                word = source.choice(["put", "put", "multiply", "drop", "tilt", "turn", "claim", "let", "undo", "redo"])
                try:
                    found = self.carry_out(source, desk, word, kept, told)
                except (Refused, TooMany, UnknownName, InvalidOperation):
                    found = None
                except NothingToUndo:
                    self.assertTrue(not later if word == "redo" else len(past) == 1)
                    found = None
                if found == "undo":
                    later.append(past.pop())
                elif found == "redo":
                    past.append(later.pop())
                elif found is not None:
                    past.append(found)
                    later = []
                kept, told = past[-1]
                self.assertEqual((desk.deeds, desk.names, desk.claims), (len(past) - 1, tuple(sorted(kept)), told))
                self.assertTrue(all(desk[name] == kept[name] for name in kept))

    def carry_out(self, source, desk, word, kept, told):
        """The state behind a deed."""
        names = [source.choice(NAMES[:4]) for _ in range(3)]
        if word == "put":
            operator = source.operator(desk.prime, source.number(-1, 2))
            desk.put(names[0], operator)
            return {**kept, names[0]: operator}, told
        if word == "multiply":
            desk.multiply(*names)
            return {**kept, names[0]: kept[names[1]] * kept[names[2]]}, told
        if word == "drop":
            desk.drop(names[0])
            return {name: kept[name] for name in kept if name != names[0]}, told
        if word == "tilt":
            function = source.function(desk.prime, 1, 1)
            desk.tilt_all(function)
            return {name: tilted(kept[name], function) for name in kept}, told
        if word == "turn":
            desk.turn_all()
            return {name: turned_over(kept[name]) for name in kept}, told
        if word == "claim":
            claim = source.choice([("degree", names[0], source.number(-1, 2)), ("factor", names[0], names[1]),
                                   ("norms", names[0], names[1]), ("product", *names)])
            desk.claim(claim)
            return kept, (*told, claim)
        if word == "let":
            claim = source.choice([*told, ("flat", "q")])
            desk.let_go(claim)
            return kept, tuple(other for other in told if other != claim)
        getattr(desk, word)()
        return word


if __name__ == "__main__":
    unittest.main()
