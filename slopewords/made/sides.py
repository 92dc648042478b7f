"""Right sides: which functions an operator makes, and what bars the others."""

from slopewords.errors import InvalidOperation
from slopewords.func.functions import Function, check_function, check_functions, check_same_prime, join_parts
from slopewords.func.slopes import slope_source
from slopewords.line.tables import solved, undone_table
from slopewords.made.rows import made_base, made_rows
from slopewords.oper.changes import turn_over
from slopewords.oper.operators import check_operator


def pairing(one, other):
    """The last part of the product of two functions."""
    check_function(one)
    check_function(other)
    check_same_prime((one, other))
    return pair(one, other)


def pair(one, other):
    """The pairing of two functions of one prime."""
    return (one * other).last_part()


def conditions(operator):
    """The echelon base of what the operator, turned over, makes 0."""
    check_operator(operator)
    return made_base(turn_over(operator))


def check_side(operator, function):
    """Refuse what are no operator and no function of one prime."""
    check_operator(operator)
    check_function(function)
    check_same_prime((operator, function))


def made_from(operator, function):
    """The clean function of which the operator makes the function, or None."""
    check_side(operator, function)
    return clean_source(operator, function)


def clean_source(operator, function):
    """The clean function, or None.

    The leads of what is made 0 are the columns without a lead in the rows read backwards; there the solution has 0.
    """
    rows = tuple([row[::-1] for row in made_rows(operator)])
    solution = solved(rows, function.parts())
    return None if solution is None else join_parts(solution[::-1])


def first_bar(operator, function):
    """The first condition whose pairing with the function is not 0, or None."""
    check_side(operator, function)
    barring = [condition for condition in conditions(operator) if pair(condition, function)]
    return barring[0] if barring else None


def side_paper(operator, function):
    """The clean function of which the operator makes the function, or the first bar."""
    check_side(operator, function)
    source = clean_source(operator, function)
    if source is None:
        return "bar", first_bar(operator, function)
    return "made", source


def is_side_paper(operator, function, value):
    """Whether the value tells a function of which the operator makes the function, or a bar."""
    check_side(operator, function)
    if not isinstance(value, tuple) or len(value) != 2 or not isinstance(value[0], str):
        return False
    if value[0] == "made":
        return is_source(operator, function, value[1])
    return value[0] == "bar" and does_bar(operator, function, value[1])


def is_source(operator, function, value):
    """Whether the value is a function of which the operator makes the function."""
    return isinstance(value, Function) and value.prime == operator.prime and operator(value) == function


def does_bar(operator, function, value):
    """Whether the value is a function that the operator, turned over, makes 0, and that has a pairing other than 0."""
    if not isinstance(value, Function) or value.prime != operator.prime:
        return False
    turned = turn_over(operator)
    return bool(pair(value, function)) and not turned(value)


def is_bar(operator, function, value):
    """Whether the value is a bar."""
    check_side(operator, function)
    return does_bar(operator, function, value)


def dual_base(functions):
    """The functions whose pairings with independent ones, as many as the prime, are 1 at one index and else 0."""
    check_functions(functions)
    check_same_prime(functions)
    prime = functions[0].prime
    if len(functions) != prime:
        raise InvalidOperation("the functions are not as many as their prime")
    undone = undone_table(tuple([function.parts() for function in functions]))
    if undone is None:
        raise InvalidOperation("the functions are not independent")
    # x ** i has the pairing 1 with x ** (prime - 1 - i) alone, so the parts of the dual base stand backwards.
    return tuple([join_parts(column[::-1]) for column in zip(*undone)])


def turned_gap(operator, one, other):
    """The function without part 0 whose slope is what the turning over of the operator lacks at two functions."""
    check_operator(operator)
    check_function(one)
    check_function(other)
    check_same_prime((operator, one, other))
    turned = turn_over(operator)
    return slope_source(operator(one) * other - one * turned(other))
