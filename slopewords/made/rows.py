"""The rows of operators, spans of functions, and what operators make 0."""

from slopewords.base.arithmetic import add_scaled, binomial_row, inverse, multiply, power_of, trimmed
from slopewords.errors import InvalidFunction, InvalidOperation
from slopewords.func.functions import Function, check_functions, check_same_prime, clear_bottoms, function_of
from slopewords.func.functions import join_parts
from slopewords.line.elimination import eliminate
from slopewords.line.tables import check_table, determinant, echelon, solved, table_kernel, table_rank
from slopewords.oper.operators import Operator, check_operator, made_operator

MOST_SPANNED = 28


def check_spanning(functions):
    """Refuse every value that is no tuple of from 1 to 28 functions of one prime."""
    check_functions(functions)
    if len(functions) > MOST_SPANNED:
        raise InvalidFunction("more than 28 functions")
    check_same_prime(functions)


def rows_of(operator):
    """The rows: the entry (i, j) is part i of what the operator makes of x ** j."""
    check_operator(operator)
    return made_rows(operator)


def made_rows(operator):
    """The rows, all of them over one bottom first, so that this is made a function of t just once."""
    prime = operator.prime
    if not operator:
        return tuple([(Function.number(prime, 0),) * prime for _ in range(prime)])
    tops, bottom = clear_bottoms(operator.entries[:prime])
    lift = power_of(prime, bottom, prime - 1)
    tops = [multiply(prime, top, lift) for top in tops]
    columns = [power_made(prime, tops, power) for power in range(prime)]
    return tuple([tuple([function_of(prime, trimmed(column[place::prime]), bottom) for column in columns])
                  for place in range(prime)])


def power_made(prime, tops, power):
    """What an operator with these polynomials for functions makes of a power of x, a polynomial."""
    total = ()
    factor = 1
    for index, top in enumerate(tops[:power + 1]):
        total = add_scaled(prime, total, (0,) * (power - index) + top, factor)
        factor = factor * (power - index) % prime
    return total


def operator_of_rows(table):
    """The operator of a degree below the prime that has these rows."""
    check_table(table)
    prime = table[0][0].prime
    if len(table) != prime or len(table[0]) != prime:
        raise InvalidOperation("not as many rows and columns as the prime tells")
    made = [join_parts(column) for column in zip(*table)]
    entries = []
    factor = 1
    for index in range(prime):
        entries.append(entry_from(prime, made, index) * Function.number(prime, inverse(prime, factor)))
        factor = factor * (index + 1) % prime
    return made_operator(prime, entries)


def entry_from(prime, made, index):
    """The entry at an index, times the product of the numbers from 1 to it, from what is made of the powers of x.

    It is what the operator makes of (x - a) ** index, with x put for the number a only behind that.
    """
    row = binomial_row(prime, index)
    total = Function.number(prime, 0)
    for power, function in enumerate(made[:index + 1]):
        sign = 1 if (index - power) % 2 == 0 else prime - 1
        poly = (0,) * (index - power) + (sign * row[power] % prime,)
        total = total + function_of(prime, trimmed(poly), (1,)) * function
    return total


def made_base(operator):
    """The echelon base of the functions of which the operator makes 0."""
    check_operator(operator)
    return tuple([join_parts(row) for row in table_kernel(made_rows(operator))])


def made_number(operator):
    """How many independent functions the operator makes 0."""
    check_operator(operator)
    return operator.prime - table_rank(made_rows(operator))


def image_base(operator):
    """The echelon base of what the operator makes of all functions."""
    check_operator(operator)
    rows = made_rows(operator)
    columns = tuple([column for column in zip(*rows)])
    return tuple([join_parts(row) for row in echelon(columns)])


def row_determinant(operator):
    """The determinant of the rows."""
    check_operator(operator)
    return determinant(made_rows(operator))


def span_base(functions):
    """The echelon base of the span of some functions."""
    check_spanning(functions)
    return base_of(functions)


def base_of(functions):
    """The echelon base: the functions whose parts are the echelon of the rows of parts."""
    return tuple([join_parts(row) for row in echelon(tuple([function.parts() for function in functions]))])


def in_span(functions, value):
    """Whether the value is a function in the span."""
    check_spanning(functions)
    if not isinstance(value, Function) or value.prime != functions[0].prime:
        return False
    rows = [function.parts() for function in base_of(functions)]
    rows.append(value.parts())
    return table_rank(tuple(rows)) < len(rows)


def vanisher(functions):
    """The only monic operator of the least degree that makes all of the functions 0."""
    check_spanning(functions)
    prime = functions[0].prime
    chosen = independent_ones(functions)
    size = len(chosen)
    if size == prime or size == 0:
        return Operator.slopes(prime, size)
    table = [slopes_of(function, size) for function in chosen]
    solution = solved(tuple([row[:size] for row in table]), tuple([-row[size] for row in table]))
    return made_operator(prime, [*solution, Function.number(prime, 1)])


def independent_ones(functions):
    """Those of the functions that are no sum of multiples of earlier ones; they are shorter than the echelon base."""
    rows = [clear_bottoms(function.parts())[0] for function in functions]
    leads = eliminate(functions[0].prime, list(zip(*rows)), len(rows), whole=False)[1]
    return [functions[lead] for lead in leads]


def slopes_of(function, many):
    """The tuple of the slopes of a function, itself first, up to a number."""
    slopes = [function]
    for _ in range(many):
        slopes.append(slopes[-1].slope())
    return tuple(slopes)
