"""The ring of an operator, and fully reducible operators."""

from slopewords.base.arithmetic import is_integer
from slopewords.errors import InvalidOperation
from slopewords.first.chains import length_of
from slopewords.first.factors import list_firsts
from slopewords.first.sources import bars_of
from slopewords.func.functions import Function
from slopewords.kin.leading import base_between, check_led, is_undoable, leads, number_between, pieces_of, undone
from slopewords.oper.common import least_multiple
from slopewords.oper.division import divide_right
from slopewords.oper.operators import Operator, multiply_operator
from slopewords.turn.norms import norm_of
from slopewords.turn.roots import linear_power, part_of, rest_without, roots_of


def check_ring(operators):
    """Refuse wrong operators, the first of which has the ring, and the further ones unless they are in it."""
    check_led(operators, sized=1)
    if not all([leads(operators[0], operators[0], further) for further in operators[1:]]):
        raise InvalidOperation("an operator that is not in the ring")


def ring_base(operator):
    """The echelon base of the ring."""
    check_ring((operator,))
    return base_between(operator, operator)


def ring_number(operator):
    """How many independent operators the ring has."""
    check_ring((operator,))
    return number_between(operator, operator)


def ring_product(operator, one, other):
    """The product of two operators in the ring."""
    check_ring((operator, one, other))
    return divide_right(multiply_operator(one, other), operator)[1]


def ring_undone(operator, one):
    """The operator of the ring whose products with one are 1, or None."""
    check_ring((operator, one))
    return undone(operator, one) if is_undoable(operator, one) else None


def reducible_paper(operator):
    """Irreducible operators whose least common left multiple is the operator, or a piece with a power above 1."""
    check_ring((operator,))
    for norm, power, _ in pieces_of(operator):
        if power > 1:
            return "piece", norm, power
    return "multiple", irreducible_parts(operator)


def irreducible_parts(operator):
    """The parts of all roots and of the rest, those of roots with a source taken apart once more."""
    norm = norm_of(operator)
    rows = roots_of(norm)
    found = []
    for root, many in rows:
        if bars_of(root):
            found.append(part_of(operator, linear_power(root, many)))
        else:
            found.extend([Operator.factor(function) for function in list_firsts(operator, root)])
    rest = rest_without(norm, rows)
    if len(rest) > 1:
        found.append(part_of(operator, rest))
    return tuple(found)


def is_reducible_paper(operator, value):
    """Whether the value tells such operators, or a piece with a power above 1."""
    check_ring((operator,))
    if not isinstance(value, tuple) or not value or not isinstance(value[0], str):
        return False
    if value[0] == "multiple" and len(value) == 2:
        return isinstance(value[1], tuple) and are_irreducible_parts(operator, value[1])
    return value[0] == "piece" and len(value) == 3 and is_high_piece(operator, value[1], value[2])


def is_high_piece(operator, norm, power):
    """Whether the values are a piece with a power above 1."""
    if not is_integer(power) or power < 2:
        return False
    return any([told == norm and told_power == power for told, told_power, _ in pieces_of(operator)])


def are_irreducible_parts(operator, values):
    """Whether the values are monic irreducible operators of fitting degrees with the operator as least multiple.

    They are irreducible if they are as many as the members of a chain of the operator.
    """
    if not all([isinstance(value, Operator) and value.prime == operator.prime for value in values]):
        return False
    one = Function.number(operator.prime, 1)
    if not all([value.degree > 0 and value.head == one for value in values]):
        return False
    if sum([value.degree for value in values]) != operator.degree or len(values) != length_of(operator):
        return False
    if any([divide_right(operator, value)[1] for value in values]):
        return False
    multiple = values[0]
    for value in values[1:]:
        multiple = least_multiple(multiple, value)[0]
    return multiple.degree == operator.degree
