"""What several tests share: random values, wrong values, and the check of refusals."""

import itertools
import random

from slopewords.errors import InvalidFunction, InvalidNumber, InvalidOperator, InvalidPlace, InvalidPoly
from slopewords.errors import InvalidTable, SlopeError
from slopewords.func.functions import Function
from slopewords.oper.common import left_multiple, right_common
from slopewords.oper.operators import Operator
from slopewords.turn.norms import norm
from slopewords.turn.roots import roots

PRIMES = (2, 3, 5, 7)
X3, X2 = Function.letter(3), Function.letter(2)
ONE, NO = Function.number(3, 1), Function.number(3, 0)
D3, D2 = Operator.slopes(3, 1), Operator.slopes(2, 1)
LOGS = Operator(3, (NO, ONE // X3, ONE))
BAR = Operator(2, (Function(2, (1,), (0, 0, 1)), Function.number(2, 0), Function.number(2, 1)))
EMPTY3 = Operator(3, ())
LONG = 10 ** 60


def nested(depth):
    """A tuple nested so deep."""
    value = 7
    for _ in range(depth):
        value = (value,)
    return value


# Values of the kinds that [0.4] lists, of which only a few are right anywhere.
KINDS = [
    None, True, False, LONG, -LONG, 10 ** 100 - 1, -1, 1 - LONG, "", "x", "END", "end ", "a b\tc\n", "z" * 3000,
    (), (0,), (1,), (True,), (None,), ("end",), ((),), ((1,),), nested(8), [], [1], [(1,)], {}, {"a": (1,)}, {1: 1},
    X2, X3, ONE, D2, D3, LOGS, (X3,), (X2, X3), (X3, 1), ((X3,), (X2,)), ((X3,), (X3, X3)), [[X3]], (D3,), [D3],
    SlopeError("error"),
]


def is_small_integer(value):
    """Whether the value is an integer of at most sixty digits."""
    return type(value) is int and abs(value) < LONG


def wrong_primes():
    """Values that are no primes."""
    return [value for value in KINDS if not (type(value) is int and value in PRIMES)] + [0, 1, 4, 6, 8, 9, 11, 13, -2]


def wrong_numbers(low=None, high=None):
    """Values that are no integers from low to high."""
    found = [value for value in KINDS if not is_small_integer(value)]
    if low is not None:
        found += [low - 1, -LONG + 1]
    if high is not None:
        found += [high + 1, LONG - 1]
    return found


def wrong_polys():
    """Values that are polynomials modulo none of the primes."""
    right = [(), (1,)]
    found = [value for value in KINDS if not any(type(value) is tuple and value == poly for poly in right)]
    found.append((True,))
    return found + [(0, 0), (1, 0), (7,), (-1,), (1, 9), (1, None), (1, "1"), (1, True), (0,) * 61 + (1,), [0, 1], (LONG,)]


def wrong_functions():
    """Values that are no functions."""
    return [value for value in KINDS if not isinstance(value, Function)] + [0, 1, "1 + x"]


def wrong_operators():
    """Values that are no operators."""
    return [value for value in KINDS if not isinstance(value, Operator)] + [0, (ONE, ONE)]


def wrong_tables():
    """Values that are no tables."""
    return [value for value in KINDS if value != ((X3,),)] + [
        ((),), (ONE,), ((ONE, X2),), ((ONE,), (X2,)), ((ONE,), (ONE, ONE)), ((ONE,), [ONE]), ((ONE,), (1,)),
        [(ONE,)], ((ONE,),) * 29, ((ONE,) * 29,), ((D3,),), ((None,),)]


def wrong_columns():
    """Values that are no columns."""
    return [value for value in KINDS if value != (X3,)] + [(ONE, X2), (ONE,) * 29, (ONE, 1), [ONE], ((ONE,),)]


def wrong_places():
    """Values that are places modulo none of the primes."""
    return wrong_polys() + [(), (1,), (0, 0, 1), (0, 1, 1), (1, 2, 1), (0,) * 60 + (1,)]


class Kind:
    """A kind of parameter: a right value, the error for wrong ones, and wrong ones."""

    def __init__(self, good, error, bad):
        self.good = good
        self.error = error
        self.bad = bad


def prime_kind(prime=3):
    return Kind(prime, InvalidNumber, wrong_primes())


def number_kind(good, low=None, high=None):
    return Kind(good, InvalidNumber, wrong_numbers(low, high))


def poly_kind(good):
    return Kind(good, InvalidPoly, wrong_polys())


def place_kind(good):
    return Kind(good, InvalidPlace, wrong_places())


def function_kind(good):
    return Kind(good, InvalidFunction, wrong_functions())


def operator_kind(good):
    return Kind(good, InvalidOperator, wrong_operators())


def table_kind(good):
    return Kind(good, InvalidTable, wrong_tables())


def column_kind(good):
    return Kind(good, InvalidTable, wrong_columns())


def value_kind(good):
    """A judged value: no value is refused."""
    return Kind(good, None, [])


def check_error(test, error, call, positional, keywords):
    """The call raises the error, with the wrong value if it keeps it."""
    try:
        call(*positional, **keywords)
    except error as caught:
        test.assertIs(type(caught), error)
        return caught
    except Exception as caught:
        test.fail(f"{type(caught).__name__} instead of {error.__name__}: {shown(call, positional, keywords)}")
    test.fail(f"no {error.__name__}: {shown(call, positional, keywords)}")


def shown(call, positional, keywords):
    """The text of a call."""
    return f"{getattr(call, '__name__', call)} {positional!r} {keywords!r}"


def check_kept(test, caught, value):
    """An error for a number keeps the number."""
    if isinstance(caught, InvalidNumber):
        test.assertIs(caught.given, value)


def check_refusals(test, call, kinds, keyword=None, keyword_kind=None):
    """Each wrong value is refused, and of two wrong ones the first one, keywords last."""
    names = list(range(len(kinds))) + ([keyword] if keyword else [])
    table = dict(enumerate(kinds))
    if keyword:
        table[keyword] = keyword_kind
    for at, name in enumerate(names):
        for bad in table[name].bad:
            passed = {other: table[other].good for other in names}
            passed[name] = bad
            check_kept(test, check_error(test, table[name].error, call, *split(passed)), bad)
        for later in names[at + 1:]:
            if table[name].bad and table[later].bad:
                passed = {other: table[other].good for other in names}
                passed[name], passed[later] = table[name].bad[0], table[later].bad[-1]
                check_kept(test, check_error(test, table[name].error, call, *split(passed)), table[name].bad[0])


def split(passed):
    """The positional and the keyword arguments."""
    positional = [value for name, value in passed.items() if isinstance(name, int)]
    return positional, {name: value for name, value in passed.items() if isinstance(name, str)}


def slow_product(prime, one, other):
    """The product, straight from its definition."""
    numbers = [0] * (len(one) + len(other))
    for low, first in enumerate(one):
        for high, second in enumerate(other):
            numbers[low + high] = (numbers[low + high] + first * second) % prime
    while numbers and numbers[-1] == 0:
        numbers.pop()
    return tuple(numbers)


def slow_sum(prime, one, other):
    """The sum, straight from its definition."""
    numbers = [(first + second) % prime for first, second in itertools.zip_longest(one, other, fillvalue=0)]
    while numbers and numbers[-1] == 0:
        numbers.pop()
    return tuple(numbers)


class Source:
    """Random values that are the same in each run."""

    def __init__(self, seed):
        self.random = random.Random(seed)

    def number(self, low, high):
        return self.random.randint(low, high)

    def choice(self, values):
        return self.random.choice(values)

    def poly(self, prime, degree):
        """A polynomial of just this degree, () for -1."""
        if degree < 0:
            return ()
        return tuple(self.number(0, prime - 1) for _ in range(degree)) + (self.number(1, prime - 1),)

    def function(self, prime, top=3, bottom=2):
        """A function with degrees up to these ones, sometimes 0."""
        return Function(prime, self.poly(prime, self.number(-1, top)), self.poly(prime, self.number(0, bottom)))

    def nonzero(self, prime, top=3, bottom=2):
        """A function other than 0."""
        return Function(prime, self.poly(prime, self.number(0, top)), self.poly(prime, self.number(0, bottom)))

    def table(self, prime, rows, columns):
        """A table of functions, many of them 0."""
        return tuple(tuple(self.sparse(prime) for _ in range(columns)) for _ in range(rows))

    def sparse(self, prime):
        """A function that is often 0."""
        return self.function(prime, 2, 1) if self.number(0, 2) else Function.number(prime, 0)

    def operator(self, prime, degree):
        """An operator of just this degree."""
        if degree < 0:
            return Operator(prime, ())
        entries = tuple(self.sparse(prime) for _ in range(degree))
        return Operator(prime, entries + (self.nonzero(prime, 2, 1),))


def turning_kind(good):
    """An operator of a degree from 1 on."""
    return Kind(good, InvalidOperator, wrong_operators())


def drawn_firsts(source, prime, many, alike=False):
    """Functions f for factors D - f; alike ones differ by slopes of logarithms."""
    found = [source.function(prime, 2, 1) for _ in range(many)]
    if alike:
        for place in range(many):
            by = source.nonzero(prime, 2, 1)
            found[place] = found[0] + by.slope() // by
    return found


def product_of(source, prime, functions):
    """A function times the product of all D - f."""
    operator = Operator.times(source.nonzero(prime, 1, 1))
    for function in functions:
        operator = operator * Operator.factor(function)
    return operator


def slow_product_of(operators):
    """The product of operators, from the left to the right."""
    product = operators[0]
    for operator in operators[1:]:
        product = product * operator
    return product


def longest(operators):
    """The greatest degree of a polynomial in operators."""
    return max(max(len(entry.top), len(entry.bottom)) - 1 for operator in operators for entry in operator)


def alike_to(source, operator):
    """A drawn operator that is alike to one, with functions of degrees that can be passed again."""
    while True:
        by = source.operator(operator.prime, operator.degree - 1)
        if right_common(operator, by).degree == 0:
            found = left_multiple(operator, by)[2]
            if longest([found]) <= 24:
                return found


def barred(prime):
    """An irreducible operator of the degree of the prime whose norm has one root, 1 / t."""
    return Operator.slopes(prime, prime) - Operator.times(Function.number(prime, 1) // Function.letter(prime) ** prime)


def rootless_operator(source, prime, degree):
    """A drawn monic operator whose norm has no roots."""
    while True:
        operator = source.operator(prime, degree).monic()
        if not roots(norm(operator)):
            return operator


def parts_row(functions):
    """The parts of functions, one function behind the other."""
    return tuple(part for function in functions for part in function.parts())


def joined(prime, row):
    """The functions that have these parts."""
    return tuple(Function.of_parts(tuple(row[start:start + prime])) for start in range(0, len(row), prime))
