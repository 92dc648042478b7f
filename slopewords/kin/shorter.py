"""Telling rows whose operators have polynomials of degrees to 400, without checks of what is passed.

No way is known here that finds such a row whenever there is one. So rows are tried: those that get few poles when the
table multiplies them, and multiples of them.
"""

from slopewords.base.arithmetic import inverse, scale
from slopewords.kin.multiples import best_exponents, multiple_row, told_degree
from slopewords.kin.poles import image_rows, pole_degree, pole_groups, short_bases
from slopewords.kin.remainders import FAR, NEAR
from slopewords.kin.telling import glass_of, improved_row, may_be_short, operator_of_row, row_steps, telling_row
from slopewords.line.elimination import sum_of_products, without_content
from slopewords.turn.whole import idle_tops, quotients

# The bound of the conventions for the degrees of polynomials in any one of several results.
MOST_SHORT = 400
# What is told ahead of a degree is often a bit too high, so that it can be above the bound by so much.
SPARE = 12
MOST_SUMS = 64
MOST_TRIED = 32


def short_pair(table, system):
    """A telling row and its operator, with degrees to 400 if such ones are found. There must be a telling row."""
    prime = table[0][0].prime
    row = telling_row(prime, system)
    pair = pair_of(table, quotients(prime, [row], (1,), 0)[0])
    shorter = pair if is_short_pair(pair) else short_multiple(table, system, row, pair[1])
    if shorter is None:
        shorter = first_short_pair(table, system, row)
    return pair if shorter is None else shorter


def pair_of(table, row):
    """A telling row of functions and its operator."""
    return row, operator_of_row(row_steps(table, row))


def is_short_pair(pair):
    """Whether all polynomials in a row and in its operator have degrees to 400."""
    row, operator = pair
    return max([max(len(entry.top), len(entry.bottom)) for entry in [*row, *operator.entries]]) <= MOST_SHORT + 1


def short_multiple(table, system, row, operator):
    """The pair for a multiple of a row of polynomials, given its operator, with degrees to 400; None if none is found.

    A multiple at places at which poles vanish comes first: it can lead back to a row with a very short operator.
    """
    exponents = best_exponents(table[0][0].prime, operator, system[1])
    choices = [[told for told in exponents if told[2] == 0]]
    if told_degree(operator, exponents) <= MOST_SHORT + SPARE:
        choices.append(exponents)
    for choice in choices:
        if any([exponent for _, exponent, _ in choice]):
            pair = pair_of(table, multiple_row(table[0][0].prime, row, choice))
            if is_short_pair(pair):
                return pair
    return None


def first_short_pair(table, system, known):
    """The pair for the first row to try, or a multiple of it, with degrees to 400; None if there is none.

    The known row is left out.
    """
    prime, size = table[0][0].prime, len(table)
    near, far = glass_of((prime, NEAR[prime]), system), glass_of((prime, FAR[prime]), system)
    groups = pole_groups(prime, system, [entry.bottom for line in table for entry in line])
    tried = {tuple(normal_row(prime, known)): True}
    for start, parts in rows_to_try(prime, groups, size):
        improved, rank = improved_row(prime, system, start, parts, near)
        row = normal_row(prime, improved)
        if rank < size or tuple(row) in tried:
            continue
        if len(tried) > MOST_TRIED:
            break
        tried[tuple(row)] = True
        if may_be_short(far, row, MOST_SHORT + SPARE):
            pair = pair_of(table, quotients(prime, [row], (1,), 0)[0])
            shorter = pair if is_short_pair(pair) else short_multiple(table, system, row, pair[1])
            if shorter is not None:
                return shorter
    return None


def rows_to_try(prime, groups, size):
    """Pairs of a row of polynomials and of a list of rows whose multiples can be added to it.

    First come the rows of 0 and of one 1, then other sums of rows of short bases, those that get the least poles ahead.
    Behind them stand sums of two rows, one of which is multiplied by a polynomial.
    """
    lists = [parts for base in short_bases(prime, groups, size) for parts in parts_of(base)]
    lists.extend([[row] for row in image_rows(prime, groups)])
    found = {}
    for parts in lists:
        row = normal_row(prime, sum_row(prime, parts, (1,)))
        if tuple(row) not in found:
            found[tuple(row)] = parts
    units = [tuple(row) for row in idle_tops(size)]
    order = sorted([(key not in units, pole_degree(prime, key, groups), len(parts), key)
                    for key, parts in found.items()])
    sums = [(list(key), found[key]) for _, _, _, key in order[:MOST_SUMS]]
    factors = [(number,) for number in range(2, prime)] + [(number, 1) for number in range(prime)]
    return sums + [(sum_row(prime, parts, factor), []) for _, parts in sums if len(parts) == 2 for factor in factors]


def parts_of(base):
    """All lists of some rows of a base."""
    return [[row for place, row in enumerate(base) if (bits >> place) & 1] for bits in range(1, 1 << len(base))]


def sum_row(prime, parts, factor):
    """The sum of rows of polynomials, the last one of which is multiplied by a factor."""
    factors = [(1,) for _ in parts[1:]] + [factor]
    return [sum_of_products(prime, factors, column) for column in zip(*parts)]


def normal_row(prime, row):
    """A row of polynomials without a common divisor; its first entry other than () is made monic."""
    entries = without_content(prime, row)
    first = [entry for entry in entries if entry][0]
    unit = inverse(prime, first[-1])
    return [scale(prime, entry, unit) for entry in entries]
