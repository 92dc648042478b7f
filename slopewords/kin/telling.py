"""Telling rows of systems, and their operators, without checks of what is passed.

A *system* is a pair of the tops of a table and of their bottom. A *glass* is a pair of a modulus and of the remainders
of the table's functions: through it much of what becomes of a row is seen quickly.
"""

from slopewords.base.arithmetic import add_scaled, slope_of, trimmed
from slopewords.func.functions import Function, slope_top
from slopewords.kin.remainders import count_first, determinant_rest, folded, is_short_rest, product_rest, undone_rest
from slopewords.line.elimination import count_rank, sum_of_products
from slopewords.line.tables import multiply_tables, solved
from slopewords.oper.operators import made_operator
from slopewords.turn.whole import idle_tops, product_tops


def row_steps(table, row):
    """The rows r0, .., rn of functions: each next one is the slope of the last one and its product with the table."""
    rows = [row]
    for _ in table:
        moved = multiply_tables((rows[-1],), table)[0]
        rows.append(tuple([entry.slope() + further for entry, further in zip(rows[-1], moved)]))
    return rows


def operator_of_row(rows):
    """The monic operator whose functions, times the rows of a telling row, add up to 0."""
    upper = rows[:-1]
    table = tuple([column for column in zip(*upper)])
    entries = solved(table, tuple([-entry for entry in rows[-1]]))
    prime = rows[0][0].prime
    return made_operator(prime, [*entries, Function.number(prime, 1)])


def telling_row(prime, system):
    """A telling row of polynomials, for a system that has one: all rows are tried, each one improved first."""
    size = len(system[0])
    number = 0
    row, rank = improved_row(prime, system, numbered_row(prime, size, number), idle_tops(size), None)
    while rank < size:
        number += 1
        row, rank = improved_row(prime, system, numbered_row(prime, size, number), idle_tops(size), None)
    return row


def improved_row(prime, system, row, parts, glass):
    """A row with parts times powers of x added, as long as more rows become independent so, and how many are.

    With a glass this is only seen through it; with None it is exact.
    """
    size = len(row)
    rank = told_rank(prime, system, row, glass)
    power = 0
    while parts and rank < size and power < prime:
        rows = [with_part(prime, row, part, power) for part in parts]
        ranks = [told_rank(prime, system, further, glass) for further in rows]
        power += 1
        if max(ranks) > rank:
            rank = max(ranks)
            row = rows[ranks.index(rank)]
            power = 0
    return row, rank


def told_rank(prime, system, row, glass):
    """How many of r0, .., r(n - 1) are independent for a row of polynomials; with a glass, how many are seen to be."""
    if glass is None:
        return row_rank(prime, system, row)
    return count_first(glass[0], seen_rows(glass, row))


def with_part(prime, row, part, power):
    """A row of polynomials with a power of x times another one added."""
    return [add_scaled(prime, entry, (0,) * power + further if further else (), 1) for entry, further in zip(row, part)]


def numbered_row(prime, size, number):
    """The row of polynomials that has the digits of a number: each row has just one number."""
    digits = []
    while number:
        digits.append(number % prime)
        number = number // prime
    return [trimmed(digits[place::size]) for place in range(size)]


def row_rank(prime, system, row):
    """How many of r0, .., r(n - 1) are independent for a row of polynomials."""
    return count_rank(prime, further_tops(prime, system, row, len(row) - 1))


def further_tops(prime, system, row, many):
    """The rows r0, r1 and so on up to a number, each one over the power of the bottom that its number tells."""
    tops, bottom = system
    slope = slope_of(prime, bottom)
    found = [row]
    for number in range(many):
        slopes = [slope_top(prime, entry, bottom, slope, number) for entry in found[-1]]
        moved = product_tops(prime, [found[-1]], tops)[0]
        found.append([add_scaled(prime, entry, further, 1) for entry, further in zip(slopes, moved)])
    return found


def glass_of(modulus, system):
    """The glass of a system with a modulus whose irreducible polynomial does not divide the bottom."""
    lift = modulus[0]
    undone = undone_rest(modulus, folded(modulus, system[1], lift))
    rests = [[product_rest(modulus, folded(modulus, top, lift), undone) for top in row] for row in system[0]]
    return modulus, rests


def seen_rows(glass, row):
    """The remainders of the rows r0, .., r(n - 1) for a row of polynomials."""
    modulus, rests = glass
    prime = modulus[0]
    columns = list(zip(*rests))
    rows = [[folded(modulus, entry, prime) for entry in row]]
    for _ in range(len(row) - 1):
        last = rows[-1]
        moved = [sum_of_products(prime, last, column) for column in columns]
        rows.append([folded(modulus, add_scaled(prime, slope_of(prime, entry), further, 1), prime)
                     for entry, further in zip(last, moved)])
    return rows


def may_be_short(glass, row, most):
    """Whether the function ahead of D ** (n - 1) in the operator of a row seems to have degrees of at most a number.

    If W is the determinant of r0, .., r(n - 1), this function is the opposite of W' / W plus the table's diagonal.
    """
    modulus, rests = glass
    prime = modulus[0]
    determinant = determinant_rest(modulus, seen_rows(glass, row))
    undone = undone_rest(modulus, determinant)
    total = product_rest(modulus, slope_of(prime, determinant), undone)
    for place, line in enumerate(rests):
        total = add_scaled(prime, total, line[place], 1)
    return bool(undone) and is_short_rest(modulus, total, most)
