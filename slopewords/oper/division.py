"""Division of operators, on the right and on the left, with rests."""

from slopewords.base.arithmetic import add_scaled, is_within, multiply, slope_of
from slopewords.errors import InvalidNumber, InvalidOperation
from slopewords.func.functions import Function, check_function, check_same_prime, clear_bottoms, power_quotient
from slopewords.func.functions import slope_top
from slopewords.oper.operators import Operator, check_operator, made_operator, slope_entries

MOST_VALUES = 20
MOST_POWER = 60


def check_division(one, other):
    """Refuse what cannot be divided."""
    check_operator(one)
    check_operator(other)
    check_same_prime((one, other))
    if not other:
        raise InvalidOperation("a division by the empty operator")


def right_division(one, other):
    """The pair (Q, R) with one = Q other + R, and R of a lesser degree than the other one."""
    check_division(one, other)
    return divide_right(one, other)


def divide_right(one, other):
    """The right quotient and the right rest."""
    lifted = [other.entries]
    for _ in range(len(one) - len(other)):
        lifted.append(slope_entries(lifted[-1]))
    rest = list(one.entries)
    quotient = []
    while len(rest) >= len(other):
        factor = rest[-1] // other.head
        quotient.append(factor)
        rest = less_top(rest, [factor * entry for entry in lifted[len(rest) - len(other)]])
    return made_operator(one.prime, quotient[::-1]), made_operator(one.prime, rest)


def less_top(rest, entries):
    """The entries of a rest less equally many others, but for the last one, which becomes 0."""
    return [entry - further for entry, further in zip(rest[:-1], entries)]


def left_division(one, other):
    """The pair (Q, R) with one = other Q + R, and R of a lesser degree than the other one."""
    check_division(one, other)
    return divide_left(one, other)


def divide_left(one, other):
    """The left quotient and the left rest."""
    zero = Function.number(one.prime, 0)
    rest = list(one.entries)
    quotient = []
    while len(rest) >= len(other):
        factor = rest[-1] // other.head
        quotient.append(factor)
        product = other * Operator.times(factor)
        shift = len(rest) - len(other)
        lower = [zero for _ in range(shift)]
        rest = less_top(rest, lower + [product.entry(index) for index in range(len(other))])
    return made_operator(one.prime, quotient[::-1]), made_operator(one.prime, rest)


def right_quotient(one, other):
    """The right quotient if the right rest is empty, otherwise None."""
    quotient, rest = right_division(one, other)
    return None if rest else quotient


def left_quotient(one, other):
    """The left quotient if the left rest is empty, otherwise None."""
    quotient, rest = left_division(one, other)
    return None if rest else quotient


def can_divide(operator, value):
    """Whether the value is an operator by which another one can be divided."""
    return isinstance(value, Operator) and value.prime == operator.prime and bool(value)


def is_right_factor(operator, value):
    """Whether the value is a right factor of the operator, and not empty."""
    check_operator(operator)
    return can_divide(operator, value) and not divide_right(operator, value)[1]


def is_left_factor(operator, value):
    """Whether the value is a left factor of the operator, and not empty."""
    check_operator(operator)
    return can_divide(operator, value) and not divide_left(operator, value)[1]


def value_at(operator, function):
    """The function by which the right rest by D less a function multiplies."""
    check_operator(operator)
    check_function(function)
    check_same_prime((operator, function))
    worth = Function.number(function.prime, 0)
    for entry, value in zip(operator.entries, row_of_values(function, len(operator))):
        worth = worth + entry * value
    return worth


def value_row(function, many):
    """The tuple of the values of D ** 0, D ** 1 and so on at a function, so many of them."""
    check_function(function)
    if not is_within(many, 0, MOST_VALUES):
        raise InvalidNumber(many)
    return tuple(row_of_values(function, many))


def row_of_values(function, many):
    """The values of so many powers of D at a function."""
    values = []
    value = Function.number(function.prime, 1)
    for _ in range(many):
        values.append(value)
        value = value.slope() + function * value
    return values


def power_rest(operator, many):
    """The right rest of a power of D by the operator, step by step."""
    check_operator(operator)
    if not is_within(many, 0, MOST_POWER):
        raise InvalidNumber(many)
    if not operator:
        raise InvalidOperation("a division by the empty operator")
    prime = operator.prime
    if len(operator) == 1:
        return made_operator(prime, [])
    rows, bottom = power_tops(operator, many)
    lower = max(0, many + 1 - operator.degree)
    return made_operator(prime, [power_quotient(prime, top, bottom, lower) for top in rows[many]])


def power_tops(operator, many):
    """The tops of the right rests of D ** 0, .., D ** many by an operator of a degree from 1 on, and their bottom.

    From the degree on, the rest of a power is over the bottom to the power by which its index exceeds degree - 1.
    """
    falls, bottom = clear_bottoms(operator.monic().entries[:-1])
    size = len(falls)
    rows = [[(1,) if index == number else () for index in range(size)] for number in range(size)]
    for number in range(many + 1 - size):
        rows.append(next_tops(operator.prime, rows[-1], falls, bottom, number))
    return rows, bottom


def next_tops(prime, tops, falls, bottom, number):
    """From the tops of a rest over bottom ** number those of the next rest over the next power.

    So a rest is brought to lowest terms once, at the end. Bottom times D ** n is less the sum of all falls, each
    times its power of D; the slope of top / bottom ** number is told by both slopes.
    """
    slope = slope_of(prime, bottom)
    found = []
    for place, fall in enumerate(falls):
        top = slope_top(prime, tops[place], bottom, slope, number)
        if place:
            top = add_scaled(prime, top, multiply(prime, tops[place - 1], bottom), 1)
        found.append(add_scaled(prime, top, multiply(prime, tops[-1], fall), -1))
    return found
