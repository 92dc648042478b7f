"""Tables and operators with polynomials of any degrees, without checks of what is passed.

A table of tops stands for a table of functions: each top is divided by one bottom to a told power. A polynomial in y is
a list of polynomials, the one at the lowest power of y first.
"""

from slopewords.base.arithmetic import add_scaled, binomial_row, multiply, power_of, quotient_of, slope_of
from slopewords.func.functions import power_quotient, slope_top
from slopewords.line.elimination import sum_of_products
from slopewords.oper.changes import tops_behind
from slopewords.oper.division import power_tops


def quotients(prime, tops, bottom, many):
    """The table of functions for tops over a power of a bottom."""
    return tuple([tuple([power_quotient(prime, top, bottom, many) for top in row]) for row in tops])


def idle_tops(size):
    """The tops that are 1 where row and column have one index."""
    return [[(1,) if column == row else () for column in range(size)] for row in range(size)]


def tops_by_division(operator, many):
    """The tops of a step table over bottom ** many, and the bottom: the rests of further and further powers of D."""
    prime, size = operator.prime, operator.degree
    rows, bottom = power_tops(operator, many + size - 1)
    found = []
    for number in range(many, many + size):
        lift = power_of(prime, bottom, many - max(0, number + 1 - size))
        found.append([multiply(prime, top, lift) for top in rows[number]])
    return found, bottom


def first_tops(operator):
    """The tops of the first step table, and the bottom."""
    return tops_by_division(operator, 1)


def tops_by_steps(operator, many):
    """The tops of a step table, and the bottom: each next one is the slope of the last one and its product with B."""
    prime = operator.prime
    first, bottom = first_tops(operator)
    tops = first
    for number in range(1, many):
        moved = product_tops(prime, tops, first)
        tops = sum_tops(prime, slope_tops(prime, tops, bottom, number), moved, 1)
    return tops, bottom


def tops_by_halves(operator, many):
    """The tops of a step table from 2 on, and the bottom: each one is made of two tables with half the number."""
    prime = operator.prime
    first, bottom = first_tops(operator)
    tables = [idle_tops(len(first)), first]
    for number in range(2, many - many // 2 + 1):
        tables.append(joined_tops(prime, tables, bottom, number))
    return joined_tops(prime, tables, bottom, many), bottom


def joined_tops(prime, tables, bottom, many):
    """The tops of a step table from those of lesser ones."""
    low = many // 2
    high = many - low
    table = tables[high]
    total = product_tops(prime, table, tables[low])
    for index, factor in enumerate(binomial_row(prime, low)[1:]):
        table = slope_tops(prime, table, bottom, high + index)
        total = sum_tops(prime, total, product_tops(prime, table, tables[low - index - 1]), factor)
    return total


def product_tops(prime, one, other):
    """The product of two tables of tops; the powers of the bottom are added up."""
    columns = list(zip(*other))
    return [[sum_of_products(prime, row, column) for column in columns] for row in one]


def sum_tops(prime, one, other, factor):
    """The sum of one table of tops and of another one over the same power, times an integer."""
    return [[add_scaled(prime, top, further, factor) for top, further in zip(row, other_row)]
            for row, other_row in zip(one, other)]


def slope_tops(prime, tops, bottom, many):
    """The tops of the slope of a table over bottom ** many, over the next power."""
    slope = slope_of(prime, bottom)
    return [[slope_top(prime, top, bottom, slope, many) for top in row] for row in tops]


def lifted_rows(prime, tops):
    """The operator with these polynomials, multiplied by D ** 0, .., D ** (prime - 1) on the left."""
    rows = [list(tops)]
    for _ in range(prime - 1):
        last = rows[-1]
        slopes = [slope_of(prime, top) for top in last]
        rows.append([add_scaled(prime, top, slope, 1) for top, slope in zip([(), *last], [*slopes, ()])])
    return rows


def layers_of(prime, row, column):
    """The polynomial in y = D ** prime that stands ahead of D ** column in an operator."""
    return row[column::prime]


def multiply_layers(prime, one, other):
    """The product of two polynomials in y."""
    found = [() for _ in range(len(one) + len(other) - 1)]
    for low, top in enumerate(one):
        for high, further in enumerate(other):
            if top and further:
                found[low + high] = add_scaled(prime, found[low + high], multiply(prime, top, further), 1)
    return found


def add_layers(prime, one, other, factor):
    """The sum of one polynomial in y and of another one times an integer."""
    size = max(len(one), len(other))
    left = one + [() for _ in range(size - len(one))]
    right = other + [() for _ in range(size - len(other))]
    return [add_scaled(prime, top, further, factor) for top, further in zip(left, right)]


def layered_determinant(prime, table):
    """The determinant of a square table of polynomials in y.

    It needs no division: for more and more rows the minors of all choices of columns are kept, each choice as a
    number with a bit for each column.
    """
    minors = {0: [(1,)]}
    for row in table:
        found = {}
        for chosen, minor in minors.items():
            for column, layers in enumerate(row):
                if (chosen >> column) & 1 or not any(layers):
                    continue
                wider = chosen | (1 << column)
                product = multiply_layers(prime, minor, layers)
                found[wider] = add_layers(prime, found.get(wider, []), product, sign_above(chosen, column))
        minors = found
    return minors.get((1 << len(table)) - 1, [])


def sign_above(chosen, column):
    """1 if evenly many of the chosen columns stand behind a column, else -1."""
    sign = 1
    rest = chosen >> column
    while rest:
        if rest & 1:
            sign = -sign
        rest = rest >> 1
    return sign


def exact_quotient(prime, due, tops):
    """The polynomials of A for which A times the operator with the tops is due, if there is such an A of polynomials.

    The powers of D from the prime on come from the lesser ones, as D ** prime goes along with everything.
    """
    rows = lifted_rows(prime, tops)
    rest = list(due)
    quotient = []
    for number in range(len(due) - len(tops), -1, -1):
        factor = quotient_of(prime, rest[-1], tops[-1])
        quotient.append(factor)
        row = rows[number % prime]
        low = number - number % prime
        for index, top in enumerate(row):
            change = multiply(prime, factor, top)
            rest[low + index] = add_scaled(prime, rest[low + index], change, -1)
        rest.pop()
    return quotient[::-1]


def behind_poly(prime, tops, poly):
    """The product of the operator with the tops and of the operator that multiplies by a polynomial."""
    slopes = [poly]
    for _ in range(prime - 1):
        slopes.append(slope_of(prime, slopes[-1]))
    return tops_behind(prime, tops, slopes)
