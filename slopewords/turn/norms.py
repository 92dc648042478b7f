"""Norms of operators: polynomials in y, which stands for D to the power of the prime, with functions of t."""

from slopewords.base.arithmetic import spread_out, trimmed
from slopewords.base.polys import check_prime
from slopewords.errors import InvalidOperation, InvalidTable, TooMany
from slopewords.func.functions import Function, check_function, check_same_prime, clear_bottoms, function_of
from slopewords.func.functions import power_quotient
from slopewords.line.elimination import own_numbers
from slopewords.oper.operators import check_operator, made_operator
from slopewords.turn.turns import check_size
from slopewords.turn.whole import behind_poly, exact_quotient, layered_determinant, layers_of, lifted_rows
from slopewords.turn.whole import tops_by_division

MOST_NORM = 8


def check_not_empty(operator):
    """Refuse every value that is no operator, and the empty operator."""
    check_operator(operator)
    if not operator:
        raise InvalidOperation("the empty operator has no norm")


def norm(operator):
    """The norm, by the turn."""
    check_not_empty(operator)
    check_size(operator)
    return norm_of(operator)


def norm_of(operator):
    """The norm: the head, its letter read as t, times each number of the own polynomial of the turn.

    Tops and bottoms of these numbers have the slope 0, so each prime-th of their numbers tells the function of t.
    """
    if operator.degree == 0:
        return (operator.head,)
    prime = operator.prime
    tops, bottom = tops_by_division(operator, prime)
    numbers = own_numbers(prime, tops)
    found = [operator.head * power_quotient(prime, trimmed(number[::prime]), bottom, place)
             for place, number in enumerate(numbers)]
    return tuple(found[::-1])


def norm_by_rows(operator):
    """The norm, as the determinant of the rows of D ** i times the operator."""
    check_not_empty(operator)
    check_size(operator)
    prime = operator.prime
    tops, bottom = clear_bottoms(operator.entries)
    rows = [[layers_of(prime, row, column) for column in range(prime)] for row in lifted_rows(prime, tops)]
    numbers = layered_determinant(prime, rows)[:len(operator)]
    return tuple([function_of(prime, trimmed(number[::prime]), bottom) for number in numbers])


def is_norm(prime, value):
    """Whether the value is a norm polynomial modulo the prime."""
    check_prime(prime)
    return has_norm_form(value) and value[0].prime == prime


def has_norm_form(value):
    """Whether the value is a tuple of from one to nine functions of one prime, the last one not 0."""
    if not isinstance(value, tuple) or not 1 <= len(value) <= MOST_NORM + 1:
        return False
    if not all([isinstance(entry, Function) for entry in value]):
        return False
    return all([entry.prime == value[0].prime for entry in value]) and bool(value[-1])


def check_norm(norm):
    """Refuse every value that is no norm polynomial."""
    if not has_norm_form(norm):
        raise InvalidTable("not a norm polynomial")


def norm_product(one, other):
    """The product of two norm polynomials."""
    check_norm(one)
    check_norm(other)
    check_same_prime((one[0], other[0]))
    if len(one) + len(other) - 2 > MOST_NORM:
        raise TooMany(MOST_NORM)
    found = [Function.number(one[0].prime, 0) for _ in range(len(one) + len(other) - 1)]
    for low, entry in enumerate(one):
        for high, further in enumerate(other):
            found[low + high] = found[low + high] + entry * further
    return tuple(found)


def norm_at(norm, function):
    """The value of a norm polynomial at a function of t."""
    check_norm(norm)
    check_function(function)
    check_same_prime((norm[0], function))
    return worth_at(norm, function)


def worth_at(norm, function):
    """The value at a function of the same prime."""
    worth = Function.number(function.prime, 0)
    for entry in norm[::-1]:
        worth = worth * function + entry
    return worth


def norm_operator(norm):
    """The operator that a norm polynomial becomes with x ** prime for t and D ** prime for y."""
    check_norm(norm)
    prime = norm[0].prime
    entries = []
    for entry in norm:
        entries.append(entry.spread())
        entries.extend([Function.number(prime, 0) for _ in range(prime - 1)])
    return made_operator(prime, entries)


def norm_cofactor(operator):
    """The operator whose product with this one is the operator of the norm.

    With the least bottom B of all functions, B times the operator and B ** prime times the operator of the norm have
    polynomials for functions. So has their quotient, which is B ** prime times the cofactor, times 1 / B behind it.
    """
    check_not_empty(operator)
    check_size(operator)
    prime = operator.prime
    tops, bottom = clear_bottoms(operator.entries)
    lift = function_of(prime, bottom, (1,))
    due = []
    for entry in norm_of(operator):
        due.append(spread_out(prime, (entry * lift).top))
        due.extend([() for _ in range(prime - 1)])
    whole = exact_quotient(prime, due[:1 - prime], tops)
    found = behind_poly(prime, whole, bottom)
    return made_operator(prime, [power_quotient(prime, top, bottom, prime) for top in found])
