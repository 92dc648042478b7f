"""Columns that fulfil a system whose turn is 0, without checks of what is passed.

A system asks for columns with the slope A times the column. A is a table of tops, each over one bottom. The *step* of a
column is its slope less A times it; so the system asks for columns with the step 0.
"""

from slopewords.base.arithmetic import add_scaled, inverse, multiply, scale, slope_of, trimmed
from slopewords.func.functions import function_of, slope_top
from slopewords.line.elimination import eliminate, sum_of_products, without_content


def flat_echelon(prime, system, columns, width):
    """The echelon of the first entries, so many of them, of all columns with the step 0 among multiples of some.

    The columns are independent over functions, and steps of their multiples are such multiples; the turn of the system
    makes them 0. So as many multiples, independent over functions of t, have the step 0. A row has the parts of the
    entries, one entry behind the other.
    """
    shift = regular_number(prime, system[1])
    found = []
    for power in range(prime):
        for column in columns:
            raised = [(0,) * power + entry if entry else () for entry in column]
            levelled = level(prime, system, raised, shift)
            found.append(without_content(prime, parts_in_row(prime, levelled[:width])))
        rows, leads, last, _ = eliminate(prime, found, prime * width, whole=True)
        if len(leads) == len(columns):
            break
    return [[function_of(prime, entry, last) for entry in row] for row in rows[:len(columns)]]


def regular_number(prime, bottom):
    """A number at which the bottom is not 0; 0 if there is none."""
    for number in range(prime):
        worth = 0
        for further in bottom[::-1]:
            worth = (worth * number + further) % prime
        if worth:
            return number
    return 0


def level(prime, system, column, shift):
    """A sum of steps of a column, from number 0 to p - 1, that has the step 0; its tops over bottom ** p.

    Step number k is multiplied by (shift - x) ** k and divided by 1 times 2 .. times k. In the step of the sum
    neighbours cancel out, and step number p is 0. Each column with the step 0 is its own sum.
    """
    bottom = system[1]
    powers = [(1,)]
    for _ in range(prime):
        powers.append(multiply(prime, powers[-1], bottom))
    letter = trimmed((shift, prime - 1))
    total = [multiply(prime, entry, powers[prime]) for entry in column]
    factor = (1,)
    for number in range(1, prime):
        column = step_tops(prime, system, column, number - 1)
        factor = scale(prime, multiply(prime, factor, letter), inverse(prime, number))
        lift = multiply(prime, factor, powers[prime - number])
        total = [add_scaled(prime, top, multiply(prime, lift, entry), 1) for top, entry in zip(total, column)]
    return total


def step_tops(prime, system, column, many):
    """The tops of the step of a column over bottom ** many, over the next power."""
    tops, bottom = system
    slope = slope_of(prime, bottom)
    return [add_scaled(prime, slope_top(prime, entry, bottom, slope, many), sum_of_products(prime, row, column), -1)
            for entry, row in zip(column, tops)]


def parts_in_row(prime, tops):
    """The parts of polynomials, one polynomial behind the other."""
    return [trimmed(top[place::prime]) for top in tops for place in range(prime)]
