"""What the document promises over the whole program: [0.2], [0.4] to [0.7], and [0.14] to [0.20]."""

import importlib
import inspect
import pathlib
import unittest

from slopewords import errors
from slopewords.desk.desks import Desk
from slopewords.first.chains import chain, chain_length, chain_pairs, is_chain, is_split_paper, split_paper
from slopewords.first.factors import SIDES, first_paper
from slopewords.first.sources import bars, has_source, is_source_paper, source_paper
from slopewords.func.functions import Function
from slopewords.func.slopes import is_slope, turn_of
from slopewords.kin.leading import alike_paper, are_alike, leading_base, leading_number, leading_table
from slopewords.kin.systems import system_base, table_of_operator
from slopewords.line.tables import table_plus, table_product, table_rank, undone_table
from slopewords.made.rows import image_base, in_span, made_base, made_number
from slopewords.made.sides import is_side_paper, side_paper
from slopewords.oper.changes import turned_over
from slopewords.oper.division import is_left_factor, is_right_factor
from slopewords.oper.operators import Operator
from slopewords.turn.norms import norm, norm_by_rows, norm_cofactor, norm_operator, norm_product
from slopewords.turn.roots import rootless, roots
from slopewords.turn.turns import is_flat, turn, turn_ranks
from tests.support import BAR, D2, D3, EMPTY3, KINDS, LOGS, NO, ONE, X2, X3, Source, alike_to, barred, drawn_firsts
from tests.support import longest, product_of, rootless_operator, slow_product_of

INTERFACE = pathlib.Path(__file__).parent / "examples" / "interface.txt"
OWN_ERRORS = tuple(value for value in vars(errors).values() if isinstance(value, type))
EULER = Operator(3, (NO, X3))
PAIR = (Operator(3, (ONE // X3, ONE)), D3)
TABLE = ((X3, ONE), (NO, X3 + ONE))
SQUARE = Function(2, (1,), (1, 1, 1))
# One right call of each function of the interface, by its name.
CALLS = {
    "is_poly": (3, (1, 2)), "poly_sum": (3, (1, 2), (0, 1)), "poly_product": (3, (1, 2), (0, 1)),
    "poly_division": (3, (1, 2, 1), (0, 1)), "common_poly": (3, (0, 1, 1), (0, 1)), "common_paper": (3, (0, 1, 1), (0, 1)),
    "poly_power": (3, (1, 1), 4), "poly_slope": (3, (1, 1)), "poly_at": (3, (1, 1), 5), "is_irreducible": (3, (1, 0, 1)),
    "poly_factors": (3, (0, 1, 1)), "irreducibles": (3, 2), "Function": (3, (1, 2), (0, 1)), "are_independent": ((ONE, X3),),
    "is_place": (3, (0, 1)), "poles": (ONE // X3,), "partial_fractions": (ONE // X3 + X3,),
    "of_fractions": (3, (1,), (((0, 1), ((1,),)),)), "residue": (ONE // X3, (0, 1)), "trace": (3, (0, 1), (1,)),
    "residue_traces": (ONE // X3,), "is_slope": (X3,), "slope_source": (X3,), "shrunk": (X3 ** 2,),
    "is_log_slope": (ONE // X3,), "log_source": (ONE // X3,), "log_slope": (3, (1, 0, 1)), "log_fault": (X3,), "turn_of": (X3,),
    "is_table": (TABLE,), "idle_table": (3, 2), "table_product": (TABLE, TABLE), "table_plus": (TABLE, TABLE),
    "table_slope": (TABLE,), "echelon": (TABLE,), "table_rank": (TABLE,), "table_kernel": (TABLE,),
    "solved": (TABLE, (ONE, X3)), "determinant": (TABLE,), "undone_table": (TABLE,), "own_poly": (TABLE,),
    "power_ranks": (TABLE,), "Operator": (3, (X3, ONE)), "commutator": (D3, EULER), "is_central": (D3,),
    "each_made": (LOGS, (X3, ONE)), "right_division": (LOGS, D3), "left_division": (LOGS, D3), "right_quotient": (LOGS, D3),
    "left_quotient": (LOGS, D3), "is_right_factor": (LOGS, D3), "is_left_factor": (LOGS, D3), "value_at": (LOGS, X3),
    "value_row": (X3, 4), "power_rest": (LOGS, 5), "right_common": (LOGS, D3), "left_common": (LOGS, D3),
    "right_paper": (LOGS, EULER), "is_right_paper": (LOGS, D3, (D3, EMPTY3, Operator.times(ONE))),
    "left_multiple": (LOGS, EULER), "right_multiple": (LOGS, EULER), "turned_over": (LOGS,), "moved": (LOGS, 1),
    "stretched": (LOGS, 2), "inverted": (LOGS,), "tilted": (LOGS, X3), "rows_of": (LOGS,), "operator_of_rows": (((ONE,) * 3,) * 3,),
    "made_base": (LOGS,), "made_number": (LOGS,), "image_base": (LOGS,), "row_determinant": (LOGS,), "span_base": ((X3, ONE),),
    "in_span": ((X3, ONE), X3), "vanisher": ((X3, ONE),), "pairing": (X3, X3), "conditions": (LOGS,), "made_from": (LOGS, ONE),
    "first_bar": (LOGS, X3), "side_paper": (LOGS, X3), "is_side_paper": (LOGS, X3, ("bar", X3)), "is_bar": (LOGS, X3, X3),
    "dual_base": ((ONE, X3, X3 ** 2),), "turned_gap": (LOGS, X3, ONE), "step_table": (LOGS, 3), "turn": (LOGS,),
    "turn_ranks": (LOGS,), "is_flat": (LOGS,), "flat_paper": (D3 * D3,), "norm": (LOGS,), "norm_by_rows": (LOGS,),
    "is_norm": (3, (X3, ONE)), "norm_product": ((X3, ONE), (ONE, ONE)), "norm_at": ((X3, ONE), X3), "norm_operator": ((X3, ONE),),
    "norm_cofactor": (LOGS,), "roots": ((NO, X3, ONE),), "is_root": ((NO, X3, ONE), NO), "root_number": ((NO, X3, ONE), NO),
    "rootless": ((NO, X3, ONE),), "root_part": (LOGS, NO), "parts": (LOGS,), "has_source": (X3,), "bars": (ONE // X3,),
    "source_paper": (X3,), "is_source_paper": (ONE // X3, ("place", "end", 2)), "cleaned": (ONE // X3,), "each_shrunk": (X3,),
    "place_source": (3, (1, 0, 1), (0, 1)), "first_paper": (LOGS, NO), "is_first_paper": (LOGS, NO, ("factor", NO, PAIR[0])),
    "first_width": (LOGS, NO), "first_room": (LOGS, NO), "firsts": (LOGS,), "split_paper": (LOGS,),
    "is_split_paper": (LOGS, ("factors", *PAIR)), "is_irreducible_operator": (LOGS,), "chain": (LOGS,), "is_chain": (LOGS, PAIR),
    "chain_length": (LOGS,), "chain_pairs": (LOGS, PAIR, PAIR), "is_chain_pairs": (LOGS, PAIR, PAIR, (1, 0)),
    "exchanged": (D3, Operator.factor(X3)), "leading_base": (LOGS, D3), "leading_number": (LOGS, D3),
    "does_lead": (LOGS, D3, EULER), "led_behind": (LOGS, D3, EULER), "leading_table": (LOGS, D3, EULER), "pieces": (LOGS,),
    "are_alike": (LOGS, D3), "alike_paper": (LOGS, LOGS), "is_alike_paper": (LOGS, D3, ("degree",)), "ring_base": (LOGS,),
    "ring_number": (LOGS,), "ring_product": (LOGS, EULER, EULER), "ring_undone": (LOGS, EULER), "reducible_paper": (D3 * D3,),
    "is_reducible_paper": (LOGS, ("piece", (NO, ONE), 2)), "system_base": (TABLE,), "system_turn": (TABLE,),
    "table_of_operator": (LOGS,), "system_paper": (TABLE,), "is_system_paper": (((X3,),), ("row", (ONE,), Operator.factor(X3))),
    "line_paper": ((1,), (0, 2, 1)), "is_flat_line": ((1,), (0, 2, 1), 5), "least_unflat": ((1,), (0, 2, 1)),
    "wronskian": (((1,), (0, 1)),), "sum_paper": (((1,), (0, 1)), 3), "Desk": (3,), "write_poly": (3, (1, 2)),
    "write_function": (ONE // X3,), "write_operator": (LOGS,), "read_poly": (3, "1 + x"), "read_function": (3, "(1)/(x)"),
    "read_operator": (3, "(x) D"), "read_word": (3, "x * D"), "signs": ("x + 1",), "is_written": (3, "(x) D"),
}
KEYWORDS = {
    "poly_sum": {"times": 2}, "shrunk": {"times": 1}, "table_plus": {"times": 2}, "turn": {"road": "halves"},
    "first_paper": {"side": "left"}, "is_first_paper": {"side": "left"}, "firsts": {"side": "left"},
}
GENERATORS = ("irreducibles", "each_made", "each_shrunk", "signs")
CONSTANTS = {
    "base.polys": {"PRIMES": (2, 3, 5, 7), "MAX_POWER": 60, "MOST_LISTED": 6},
    "func.functions": {"MAX_SLOPES": 20, "MAX_RAISED": 20, "MOST_JUDGED": 8}, "func.places": {"END": "end", "MOST_BOTTOM": 200},
    "func.slopes": {"MAX_SHRUNK": 20}, "line.tables": {"MOST_ROWS": 28}, "oper.operators": {"MAX_ENTRIES": 9, "MAX_RAISED": 8},
    "made.rows": {"MOST_SPANNED": 28},
    "turn.turns": {"MAX_DEGREE": 4, "MAX_TOP": 24, "ROADS": ("division", "steps", "halves")}, "turn.norms": {"MOST_NORM": 8},
    "turn.roots": {"MAX_NORM": 4, "MAX_FUNCTION": 24}, "first.sources": {"MAX_TOP": 40, "MAX_PLACE": 12},
    "first.factors": {"MAX_DEGREE": 4, "MAX_TOP": 24, "SIDES": ("right", "left")},
    "first.chains": {"MAX_SPLIT": 3, "MAX_TOP": 24}, "kin.leading": {"MAX_LED": 3, "MAX_TOP": 24},
    "line.fractions": {"MOST_NUMBER": 1000000, "MOST_DEGREE": 6, "MAX_PRIME": 1000},
    "desk.desks": {"MAX_KEPT": 8, "MAX_CLAIMS": 10, "MAX_DEGREE": 6, "MAX_TOP": 40},
    "text.texts": {"MOST_TEXT": 3000, "MAX_POWER": 60, "MAX_SLOPES": 8},
}
METHODS = {
    Function: "number letter of_parts prime top bottom degree slope parts last_part spread gathered __add__ __sub__ __mul__ "
              "__floordiv__ __neg__ __pow__ __eq__ __bool__ __str__",
    Operator: "slopes factor times prime entries degree head __call__ led entry monic __add__ __sub__ __mul__ __neg__ __pow__ "
              "__eq__ __bool__ __len__ __iter__ __str__",
    Desk: "put multiply tilt_all turn_all drop claim let_go undo redo during twin __getitem__ prime names claims deeds "
          "__contains__ __len__ __iter__ __eq__ __str__",
}


def interface():
    """The pairs of a module and of the text of a function with its parameters, as the document has them."""
    return [line.split(" ", 1) for line in INTERFACE.read_text().splitlines()]


def named(module, text):
    """The function or class, and its name."""
    name = text.partition("(")[0]
    return name, getattr(importlib.import_module(module), name)


def plain(value):
    """A value as plain tuples, words and numbers, objects of the package too."""
    if isinstance(value, Function):
        return ("function", value.prime, value.top, value.bottom)
    if isinstance(value, Operator):
        return ("operator", value.prime, tuple(plain(entry) for entry in value.entries))
    if isinstance(value, Desk):
        return ("desk", value.prime, value.deeds, tuple((name, plain(value[name])) for name in value), plain(value.claims))
    if isinstance(value, (tuple, list)):
        return (type(value).__name__, *[plain(part) for part in value])
    if isinstance(value, dict):
        return ("dict", *[(plain(key), plain(value[key])) for key in value])
    return (type(value).__name__, value if not isinstance(value, Exception) else str(value))


def further_kinds():
    """Values of every kind that the document lists, and objects of the package that are right elsewhere."""
    desk = Desk(3)
    desk.put("f", LOGS)
    deep = 1
    for place in range(7):
        deep = [deep] if place % 2 else {"a": deep}
    return [*KINDS, desk, EMPTY3, BAR, TABLE, deep, {"prime": 3}, [()], ([],), ("factor", {}, []), ("place", {}, 1),
            ("piece", {}, {}), ("piece", (NO,), 1), ("multiple", ({},)), ("leading", desk, desk), ("row", (desk,), desk),
            ("degree", "f", {}), ({},), "D", "x" * 60, 10 ** 99, -10 ** 99, SQUARE]


def carry_out(name, call, positional, keywords):
    """What a call returns; of a generator all that it yields."""
    found = call(*positional, **keywords)
    return list(found) if name in GENERATORS else found


class InterfaceTest(unittest.TestCase):
    def test_functions(self):
        for module, text in interface():
            name, call = named(module, text)
            self.assertEqual(call.__module__, module)
            told = text.partition("(")[2].rstrip(")")
            target = call.__init__ if inspect.isclass(call) else call
            due = inspect.signature(eval(f"lambda {told}: None"))
            found = [parameter for parameter in inspect.signature(target).parameters.values() if parameter.name != "self"]
            self.assertEqual([(part.name, part.default, part.kind) for part in found],
                             [(part.name, part.default, part.kind) for part in due.parameters.values()], name)

    def test_each_function_is_called_below(self):
        self.assertEqual({named(module, text)[0] for module, text in interface()}, set(CALLS))

    def test_constants(self):
        for module, due in CONSTANTS.items():
            found = importlib.import_module(f"slopewords.{module}")
            for name, value in due.items():
                self.assertEqual(getattr(found, name), value)

    def test_methods(self):
        """Each one is defined in its class itself."""
        for owner, names in METHODS.items():
            for name in names.split():
                self.assertIn(name, vars(owner))


class WholeTest(unittest.TestCase):
    def test_0_2_equal_calls(self):
        """No call changes its arguments, and equal calls return equal results."""
        for module, text in interface():
            name, call = named(module, text)
            for keywords in ({}, KEYWORDS.get(name, {})):
                before = plain(CALLS[name])
                first = carry_out(name, call, CALLS[name], keywords)
                second = carry_out(name, call, CALLS[name], dict(keywords))
                self.assertEqual(plain(first), plain(second), name)
                self.assertEqual(plain(CALLS[name]), before, name)

    def test_0_4_every_value_is_refused_or_taken(self):
        """Values of each kind, at each place: what is raised is an error of the package, and the arguments stay."""
        for module, text in interface():
            name, call = named(module, text)
            for place in range(len(CALLS[name])):
                for value in further_kinds():
                    positional = [*CALLS[name][:place], value, *CALLS[name][place + 1:]]
                    self.try_call(name, call, positional, {}, value)
            for word in KEYWORDS.get(name, {}):
                for value in further_kinds():
                    self.try_call(name, call, CALLS[name], {word: value}, value)

    def try_call(self, name, call, positional, keywords, value):
        before = plain(value)
        try:
            carry_out(name, call, positional, keywords)
        except OWN_ERRORS:
            pass
        except Exception as wrong:
            self.fail(f"{type(wrong).__name__} of {name} for {before}")
        self.assertEqual(plain(value), before)

    def test_0_4_values_within_values(self):
        """Wrong values one level deep in the arguments that are tuples."""
        for module, text in interface():
            name, call = named(module, text)
            for place, argument in enumerate(CALLS[name]):
                for index in range(len(argument) if isinstance(argument, tuple) else 0):
                    for value in further_kinds():
                        inner = (*argument[:index], value, *argument[index + 1:])
                        positional = [*CALLS[name][:place], inner, *CALLS[name][place + 1:]]
                        self.try_call(name, call, positional, {}, inner)

    def test_0_5_judges(self):
        """Each judge returns True or False for every value."""
        judges = 0
        for module, text in interface():
            name, call = named(module, text)
            if name.startswith(("is_", "are_", "has_", "does_")):
                self.assertIsInstance(carry_out(name, call, CALLS[name], {}), bool, name)
            parameters = [part.strip() for part in text.partition("(")[2].rstrip(")").split(",")]
            if "value" in parameters and name not in ("moved", "stretched", "inverted"):
                judges += 1
                place = parameters.index("value")
                for value in further_kinds():
                    positional = [*CALLS[name][:place], value, *CALLS[name][place + 1:]]
                    self.assertIsInstance(carry_out(name, call, positional, {}), bool, name)
        self.assertGreater(judges, 20)

    def test_0_2_iteration_and_signs(self):
        for value in (X3, ONE):
            with self.assertRaises(TypeError):
                list(value)
        for value in further_kinds():
            if not isinstance(value, Function):
                for call in (lambda: X3 + value, lambda: X3 - value, lambda: X3 * value, lambda: X3 // value):
                    self.assertRaises(TypeError, call)
            if not isinstance(value, Operator):
                for call in (lambda: D3 + value, lambda: D3 - value, lambda: D3 * value):
                    self.assertRaises(TypeError, call)
            for own in (X3, D3, Desk(3)):
                self.assertIs(own == value, not own != value)
                self.assertIsInstance(own == value, bool)


class StatementsTest(unittest.TestCase):
    """The main statements, for drawn operators modulo 2 and 3."""

    def setUp(self):
        self.source = Source(17)

    def operators(self, prime):
        found = []
        for degree in (1, 2, 3):
            for alike in (False, True):
                found.append(product_of(self.source, prime, drawn_firsts(self.source, prime, degree, alike)))
            found.append(self.source.operator(prime, degree))
            found.append(Operator.slopes(prime, degree))
        found += [rootless_operator(self.source, prime, 2), barred(prime), turned_over(barred(prime))]
        if prime == 2:
            found += [BAR * D2, D2 * BAR]
        return found

    def each(self):
        return [(prime, operator) for prime in (2, 3) for operator in self.operators(prime)]

    def test_0_14_made_0(self):
        for prime, operator in self.each():
            number = made_number(operator)
            self.assertEqual(number, operator.degree - table_rank(turn(operator)))
            self.assertEqual(number, operator.degree - turn_ranks(operator)[0])
            self.assertEqual(number, len(made_base(operator)))
            self.assertEqual(number, made_number(turned_over(operator)))
            self.assertEqual(number, len(system_base(table_of_operator(operator))))
            flat = number == operator.degree
            self.assertIs(is_flat(operator), flat)
            self.assertIs(is_right_factor(Operator.slopes(prime, prime), operator), flat)

    def test_0_15_right_sides(self):
        for prime, operator in self.each():
            base = image_base(operator)
            self.assertEqual(len(base), prime - made_number(operator))
            for function in [self.source.function(prime) for _ in range(2)] + [operator(self.source.function(prime))]:
                paper = side_paper(operator, function)
                self.assertIs(is_side_paper(operator, function, paper), True)
                is_made = not function or (bool(base) and in_span(base, function))
                self.assertEqual(paper[0], "made" if is_made else "bar")
                if paper[0] == "made":
                    self.assertEqual(operator(paper[1]), function)
                else:
                    self.assertFalse(turned_over(operator)(paper[1]))
                    self.assertIs(is_slope(paper[1] * function), False)

    def test_0_16_norms(self):
        for prime, operator in self.each():
            other = self.source.operator(prime, 1)
            product = operator * other
            told = norm(operator)
            self.assertEqual(told, norm_by_rows(operator))
            if longest([product]) <= 24:
                self.assertEqual(norm(product), norm_product(told, norm(other)))
            cofactor = norm_cofactor(operator)
            self.assertEqual(cofactor * operator, norm_operator(told))
            self.assertEqual(operator * cofactor, norm_operator(told))

    def test_0_17_roots(self):
        for prime, operator in self.each():
            for function in [root for root, _ in roots(norm(operator))] + [self.source.function(prime, 3, 2)]:
                paper = source_paper(function)
                self.assertIs(is_source_paper(function, paper), True)
                self.assertIs(has_source(function), not bars(function))
                self.assertEqual(paper[0] == "source", has_source(function))
            for root, many in roots(norm(operator)):
                papers = [first_paper(operator, root, side=side) for side in SIDES]
                if has_source(root):
                    right, left = [Operator.factor(paper[1]) for paper in papers]
                    self.assertIs(is_right_factor(operator, right) and is_left_factor(operator, left), True)
                    self.assertEqual([turn_of(paper[1]) for paper in papers], [root, root])
                else:
                    self.assertEqual(papers, [("place", *bars(root)[0])] * 2)
                    self.assertEqual(many % prime, 0)

    def test_0_18_factors(self):
        for prime, operator in self.each():
            paper = split_paper(operator)
            self.assertIs(is_split_paper(operator, paper), True)
            one = chain(operator)
            other = tuple(turned_over(member) for member in chain(turned_over(operator)))[::-1]
            for found in (one, other):
                self.assertEqual(len(found), chain_length(operator))
                self.assertEqual(slow_product_of(found), operator)
                self.assertIs(is_chain(operator, found), True)
            pairs = chain_pairs(operator, one, other)
            if longest([*one, *other]) <= 24:
                self.assertTrue(all(are_alike(one[place], other[index]) for place, index in enumerate(pairs)))

    def test_0_19_alike(self):
        for prime, operator in self.each():
            for other in (alike_to(self.source, operator), self.source.choice(self.operators(prime))):
                base = leading_base(operator, other)
                self.assertEqual(len(base), leading_number(operator, other))
                self.assertEqual(len(base), self.tables_between(operator, other))
                paper = alike_paper(operator, other)
                self.assertIs(are_alike(operator, other), paper[0] == "leading")
                if paper[0] == "leading":
                    table = leading_table(operator, other, paper[1])
                    self.assertIsNotNone(undone_table(table))
                    self.assertEqual(table_product(turn(other), table), table_product(table, turn(operator)))

    def tables_between(self, one, other):
        """How many independent tables go between both turns."""
        left, right, prime = turn(other), turn(one), one.prime
        rows = []
        for low in range(other.degree):
            for high in range(one.degree):
                unit = tuple(tuple(Function.number(prime, int((row, column) == (low, high))) for column in range(one.degree))
                             for row in range(other.degree))
                gap = table_plus(table_product(left, unit), table_product(unit, right), times=-1)
                rows.append(tuple(entry for row in gap for entry in row))
        return len(rows) - table_rank(tuple(rows))


class SayingsTest(unittest.TestCase):
    def test_0_20(self):
        """None of the sayings is true."""
        self.assertIs(is_right_factor(LOGS, D3) and not is_left_factor(LOGS, D3), True)
        self.assertEqual((turn_ranks(LOGS), any(entry for row in turn(LOGS) for entry in row)), ((1, 0), True))
        self.assertEqual((norm(LOGS) == norm(D3 * D3), are_alike(LOGS, D3 * D3)), (True, False))
        self.assertIs(has_source(Function.number(2, 1) // X2), False)
        # x D D - 2 D makes 1 and x x x 0 over the fractions, and modulo 3 just the functions of t.
        operator = Operator(3, (NO, ONE, X3))
        self.assertEqual(operator(ONE), NO)
        self.assertEqual(operator(X3 ** 3), NO)
        self.assertEqual(made_number(operator), 1)

    def test_what_is_drawn(self):
        """Each kind of operator turns up among the drawn ones: flat, without roots, with barred ones, with others."""
        statements = StatementsTest()
        statements.setUp()
        for prime in (2, 3):
            operators = statements.operators(prime)
            told = [norm(operator) for operator in operators]
            self.assertTrue(any(is_flat(operator) for operator in operators))
            self.assertTrue(any(len(rootless(entries)) > 2 for entries in told))
            self.assertTrue(any(not has_source(root) for entries in told for root, _ in roots(entries)))
            self.assertTrue(any(has_source(root) for entries in told for root, _ in roots(entries)))
            lengths = {(operator.degree, chain_length(operator)) for operator in operators}
            self.assertLessEqual({(1, 1), (2, 1), (2, 2), (3, 3)}, lengths)


if __name__ == "__main__":
    unittest.main()
