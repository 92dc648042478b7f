"""Tables of functions: tuples of rows, which are tuples of functions of one prime, equally many in each."""

from slopewords.base.arithmetic import is_integer, is_within, multiply, power_of, scale
from slopewords.base.polys import check_prime
from slopewords.errors import InvalidNumber, InvalidOperation, InvalidTable
from slopewords.func.functions import Function, check_same_prime, clear_bottoms, function_of
from slopewords.line.elimination import count_rank, eliminate, own_numbers, sum_of_products

MOST_ROWS = 28


def is_row(value):
    """Whether the value is a tuple of from 1 to 28 functions of one prime."""
    if not isinstance(value, tuple) or not 1 <= len(value) <= MOST_ROWS:
        return False
    if not all([isinstance(entry, Function) for entry in value]):
        return False
    return all([entry.prime == value[0].prime for entry in value])


def is_table(value):
    """Whether the value is a table."""
    if not isinstance(value, tuple) or not 1 <= len(value) <= MOST_ROWS:
        return False
    if not all([is_row(row) for row in value]):
        return False
    return all([len(row) == len(value[0]) and row[0].prime == value[0][0].prime for row in value])


def check_table(table):
    """Refuse every value that is no table."""
    if not is_table(table):
        raise InvalidTable("not a table of functions")


def check_square(table):
    """Refuse every value that is no table, and tables that are not square."""
    check_table(table)
    if len(table) != len(table[0]):
        raise InvalidOperation("the table is not square")


def idle_table(prime, size):
    """The table with 1 where row and column have one index, and 0 elsewhere."""
    check_prime(prime)
    if not is_within(size, 1, MOST_ROWS):
        raise InvalidNumber(size)
    entries = [Function.number(prime, 0), Function.number(prime, 1)]
    return tuple([tuple([entries[row == column] for column in range(size)]) for row in range(size)])


def table_product(one, other):
    """The product of two tables."""
    check_table(one)
    check_table(other)
    check_same_prime((one[0][0], other[0][0]))
    if len(one[0]) != len(other):
        raise InvalidOperation("as many columns as rows are needed")
    return multiply_tables(one, other)


def multiply_tables(one, other):
    """The product; rows and columns are made polynomials first, so that each entry is brought to lowest terms once."""
    prime = one[0][0].prime
    rows = [clear_bottoms(row) for row in one]
    columns = [clear_bottoms(column) for column in zip(*other)]
    return tuple([tuple([entry_of_product(prime, row, column) for column in columns]) for row in rows])


def entry_of_product(prime, row, column):
    """The sum of the products of functions in pairs, for two pairs of tops and their bottom."""
    top = sum_of_products(prime, row[0], column[0])
    return function_of(prime, top, multiply(prime, row[1], column[1]))


def table_plus(one, other, *, times=1):
    """The sum of one table and of another one, taken so many times, entry by entry."""
    check_table(one)
    check_table(other)
    if not is_integer(times):
        raise InvalidNumber(times)
    check_same_prime((one[0][0], other[0][0]))
    if len(one) != len(other) or len(one[0]) != len(other[0]):
        raise InvalidOperation("the tables have unlike numbers of rows or columns")
    factor = Function.number(one[0][0].prime, times)
    return tuple([tuple([entry + factor * further for entry, further in zip(row, other_row)])
                  for row, other_row in zip(one, other)])


def table_slope(table):
    """The table of the slopes of all entries."""
    check_table(table)
    return tuple([tuple([entry.slope() for entry in row]) for row in table])


def clear_rows(table):
    """The rows of a table, each times its least bottom: tuples of polynomials."""
    return [clear_bottoms(row)[0] for row in table]


def echelon_with_leads(table):
    """The pair of the echelon of a table, and of the columns of its leads."""
    prime = table[0][0].prime
    rows, leads, last, _ = eliminate(prime, clear_rows(table), len(table[0]), whole=True)
    found = [tuple([function_of(prime, entry, last) for entry in row]) for row in rows[:len(leads)]]
    return tuple(found), leads


def echelon(table):
    """The echelon, a tuple of rows."""
    check_table(table)
    return echelon_with_leads(table)[0]


def table_rank(table):
    """The rank."""
    check_table(table)
    return count_rank(table[0][0].prime, clear_rows(table))


def table_kernel(table):
    """The echelon of all columns of which the table makes 0.

    The echelon is taken with the columns in opposite sequence: then each row of the kernel begins with its own 1.
    """
    check_table(table)
    prime = table[0][0].prime
    width = len(table[0])
    rows, leads = echelon_with_leads(tuple([row[::-1] for row in table]))
    kernel = []
    for column in range(width - 1, -1, -1):
        if column not in leads:
            solution = [Function.number(prime, 0) for _ in range(width)]
            solution[column] = Function.number(prime, 1)
            for row, lead in zip(rows, leads):
                solution[lead] = -row[column]
            kernel.append(tuple(solution[::-1]))
    return tuple(kernel)


def check_column(column):
    """Refuse every value that is no tuple of from 1 to 28 functions of one prime."""
    if not is_row(column):
        raise InvalidTable("not a column of functions")


def solved(table, column):
    """The solution with 0 at each index without a lead, or None."""
    check_table(table)
    check_column(column)
    check_same_prime((table[0][0], column[0]))
    if len(column) != len(table):
        raise InvalidOperation("the column is not as long as the table")
    prime = column[0].prime
    width = len(table[0])
    wider = clear_rows([(*row, entry) for row, entry in zip(table, column)])
    rows, leads, last, _ = eliminate(prime, wider, width, whole=True)
    if any([row[width] for row in rows[len(leads):]]):
        return None
    solution = [Function.number(prime, 0) for _ in range(width)]
    for row, lead in zip(rows, leads):
        solution[lead] = function_of(prime, row[width], last)
    return tuple(solution)


def determinant(table):
    """The determinant of a square table."""
    check_square(table)
    prime = table[0][0].prime
    pairs = [clear_bottoms(row) for row in table]
    _, leads, last, sign = eliminate(prime, [row for row, _ in pairs], len(table), whole=False)
    if len(leads) < len(table):
        return Function.number(prime, 0)
    bottom = (1,)
    for _, further in pairs:
        bottom = multiply(prime, bottom, further)
    return function_of(prime, scale(prime, last, sign % prime), bottom)


def undone_table(table):
    """The table that has idle products with a square one, None for the determinant 0."""
    check_square(table)
    size = len(table)
    idle = idle_table(table[0][0].prime, size)
    rows, leads = echelon_with_leads([(*row, *idle_row) for row, idle_row in zip(table, idle)])
    if leads != list(range(size)):
        return None
    return tuple([row[size:] for row in rows])


def own_poly(table):
    """The own polynomial of a square table, a tuple of functions, the lowest power of y first."""
    check_square(table)
    prime = table[0][0].prime
    size = len(table)
    tops, bottom = clear_bottoms([entry for row in table for entry in row])
    numbers = own_numbers(prime, [tops[start:start + size] for start in range(0, size * size, size)])
    found = [function_of(prime, number, power_of(prime, bottom, place)) for place, number in enumerate(numbers)]
    return tuple(found[::-1])


def power_ranks(table):
    """The tuple of the ranks of a square table, of its square and so on, up to the first one equal to the next one.

    The rows of each power make a lesser space, in which the table acts as a smaller one; so no power is worked out.
    """
    check_square(table)
    size = len(table)
    rows, leads = echelon_with_leads(table)
    ranks = [len(leads)]
    while 0 < len(leads) < size:
        size = len(leads)
        moved = multiply_tables(rows, table)
        table = [[row[lead] for lead in leads] for row in moved]
        rows, leads = echelon_with_leads(table)
        if len(leads) < size:
            ranks.append(len(leads))
    return tuple(ranks)
