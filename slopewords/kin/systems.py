"""Systems: columns of functions whose slopes are a table times the column."""

from slopewords.base.arithmetic import is_integer, multiply, power_of, spread_out, trimmed
from slopewords.errors import InvalidTable, TooMany
from slopewords.func.functions import Function, clear_bottoms, join_parts, power_quotient
from slopewords.kin.flats import flat_echelon
from slopewords.kin.shorter import short_pair
from slopewords.kin.telling import operator_of_row, row_steps
from slopewords.line.elimination import count_rank, kernel_columns, own_numbers
from slopewords.line.tables import clear_rows, is_row, is_table
from slopewords.oper.operators import Operator
from slopewords.turn.roots import roots_of
from slopewords.turn.turns import MAX_DEGREE, MAX_TOP, check_turning, is_long
from slopewords.turn.whole import idle_tops, product_tops, quotients, slope_tops, sum_tops

MOST_SYSTEM = 4


def check_system(table):
    """Refuse every value that is no square table of at most four rows with functions that are short enough."""
    if not is_table(table) or len(table) > MOST_SYSTEM or len(table) != len(table[0]):
        raise InvalidTable("not a square table of at most four rows")
    if any([is_long(entry, MAX_TOP) for row in table for entry in row]):
        raise TooMany(MAX_TOP)


def cleared_system(table):
    """The pair of the tops of a table and of their bottom."""
    size = len(table)
    tops, bottom = clear_bottoms([entry for row in table for entry in row])
    return [tops[start:start + size] for start in range(0, size * size, size)], bottom


def turned_system(prime, system):
    """The tops of the turn, over bottom ** prime."""
    first, bottom = system
    tops = first
    for number in range(1, prime):
        tops = sum_tops(prime, slope_tops(prime, tops, bottom, number), product_tops(prime, tops, first), 1)
    return tops


def system_turn(table):
    """The turn of the system."""
    check_system(table)
    prime = table[0][0].prime
    system = cleared_system(table)
    return quotients(prime, turned_system(prime, system), system[1], prime)


def system_base(table):
    """The echelon base of the columns that fulfil the system."""
    check_system(table)
    prime, size = table[0][0].prime, len(table)
    system = cleared_system(table)
    columns = kernel_columns(prime, turned_system(prime, system))
    if not columns:
        return ()
    rows = flat_echelon(prime, system, columns, size)
    return tuple([tuple([join_parts(row[start:start + prime]) for start in range(0, len(row), prime)])
                  for row in rows])


def table_of_operator(operator):
    """The table of the system of an operator."""
    check_turning(operator)
    if operator.degree > MAX_DEGREE:
        raise TooMany(MAX_DEGREE)
    prime, size = operator.prime, operator.degree
    entries = [Function.number(prime, 0), Function.number(prime, 1)]
    rows = [tuple([entries[row + 1 == column] for column in range(size)]) for row in range(size - 1)]
    rows.append(tuple([-entry for entry in operator.monic().entries[:size]]))
    return tuple(rows)


def system_paper(table):
    """A telling row and its operator, or a function of t that shows that there is none."""
    check_system(table)
    prime = table[0][0].prime
    system = cleared_system(table)
    roots = roots_of_turn(prime, system) if len(table) > prime else []
    for root in roots:
        many = missing_rank(prime, system, root)
        if many > prime:
            return "piece", root, many
    row, operator = short_pair(table, system)
    return "row", row, operator


def roots_of_turn(prime, system):
    """The functions of t that are roots of the own polynomial of the turn."""
    numbers = own_numbers(prime, turned_system(prime, system))
    found = [power_quotient(prime, trimmed(number[::prime]), system[1], place) for place, number in enumerate(numbers)]
    return [root for root, _ in roots_of(tuple(found[::-1]))]


def missing_rank(prime, system, root):
    """What the rank of the turn less a function of t is less than the number of rows."""
    size = len(system[0])
    lift = spread_out(prime, root.bottom)
    taken = multiply(prime, spread_out(prime, root.top), power_of(prime, system[1], prime))
    turned = [[multiply(prime, top, lift) for top in row] for row in turned_system(prime, system)]
    due = [[multiply(prime, top, taken) for top in row] for row in idle_tops(size)]
    return size - count_rank(prime, sum_tops(prime, turned, due, -1))


def is_system_paper(table, value):
    """Whether the value is any telling row with its operator, or any function of t that shows that there is none."""
    check_system(table)
    if not isinstance(value, tuple) or len(value) != 3 or not isinstance(value[0], str):
        return False
    if value[0] == "row":
        return is_telling(table, value[1], value[2])
    return value[0] == "piece" and is_barring(table, value[1], value[2])


def is_telling(table, row, operator):
    """Whether the values are a telling row and its operator."""
    prime = table[0][0].prime
    if not is_row(row) or row[0].prime != prime or len(row) != len(table):
        return False
    rows = row_steps(table, row)
    if count_rank(prime, clear_rows(rows[:-1])) < len(table):
        return False
    return isinstance(operator, Operator) and operator == operator_of_row(rows)


def is_barring(table, root, many):
    """Whether the values are a function of t and by how much, more than the prime, it lowers the rank of the turn."""
    prime = table[0][0].prime
    if not isinstance(root, Function) or root.prime != prime or not is_integer(many) or many <= prime:
        return False
    return many == missing_rank(prime, cleared_system(table), root)
