"""Greatest common divisors and least common multiples of operators, on the right and on the left."""

from slopewords.errors import InvalidOperation
from slopewords.func.functions import Function, check_same_prime
from slopewords.oper.changes import turn_over
from slopewords.oper.division import divide_right
from slopewords.oper.operators import Operator, check_operator, made_operator


def check_pair(one, other):
    """Refuse what are no two operators of one prime."""
    check_operator(one)
    check_operator(other)
    check_same_prime((one, other))


def check_divisible(one, other):
    """Refuse operators that have no greatest common divisor."""
    check_pair(one, other)
    if not one and not other:
        raise InvalidOperation("both operators are empty")


def check_multiplied(one, other):
    """Refuse operators that have no least common multiple."""
    check_pair(one, other)
    if not one or not other:
        raise InvalidOperation("one of both operators is empty")


def right_common(one, other):
    """The monic greatest common right divisor."""
    check_divisible(one, other)
    return last_rest(one, other)


def last_rest(one, other):
    """The last rest that is not empty, made monic; made so at each step, as functions stay shorter then."""
    while other:
        other = other.monic()
        one, other = other, divide_right(one, other)[1]
    return one.monic()


def left_common(one, other):
    """The monic greatest common left divisor."""
    check_divisible(one, other)
    return turn_over(last_rest(turn_over(one), turn_over(other))).monic()


def right_paper(one, other):
    """The triple (G, U, V) with G, the right common one, as U one + V other, and U of the least degree."""
    check_divisible(one, other)
    return made_monic(division_rows(one, other)[0])


def division_rows(one, other):
    """The last two triples (R, U, V) with R = U one + V other in the chain of rests; the last rest is empty."""
    prime = one.prime
    unit, empty = made_operator(prime, [Function.number(prime, 1)]), made_operator(prime, [])
    old, new = (one, unit, empty), (other, empty, unit)
    while new[0]:
        new = made_monic(new)
        quotient, rest = divide_right(old[0], new[0])
        old, new = new, (rest, old[1] - quotient * new[1], old[2] - quotient * new[2])
    return old, new


def made_monic(row):
    """A triple of operators multiplied by one function, so that the first one is monic."""
    factor = Function.number(row[0].prime, 1) // row[0].head
    return row[0].led(factor), row[1].led(factor), row[2].led(factor)


def is_right_paper(one, other, value):
    """Whether the value is a triple (G, U, V) with G, the right common one, as U one + V other."""
    check_divisible(one, other)
    if not isinstance(value, tuple) or len(value) != 3:
        return False
    if not all([isinstance(part, Operator) and part.prime == one.prime for part in value]):
        return False
    return value[1] * one + value[2] * other == value[0] and value[0] == last_rest(one, other)


def left_multiple(one, other):
    """The triple (M, A, B) with M, the monic least common left multiple, as A one and as B other."""
    check_multiplied(one, other)
    return least_multiple(one, other)


def least_multiple(one, other):
    """The triple of left_multiple: the last row of the chain of rests tells that U one + V other is empty."""
    row = division_rows(one, other)[1]
    return made_monic((row[1] * one, row[1], -row[2]))


def right_multiple(one, other):
    """The triple (M, A, B) with M, the monic least common right multiple, as one A and as other B."""
    check_multiplied(one, other)
    multiple, first, second = least_multiple(turn_over(one), turn_over(other))
    parts = (turn_over(multiple), turn_over(first), turn_over(second))
    if len(multiple) % 2:
        return parts
    # Turned over, a monic operator of an odd degree has the head -1.
    return -parts[0], -parts[1], -parts[2]
