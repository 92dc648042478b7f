"""Remainders of functions by a power of an irreducible polynomial, without checks of what is passed.

The exponent of the power is the prime. So the slope of the power is 0, and remainders have slopes as functions have
them. A function has a remainder if the irreducible polynomial does not divide its bottom.
A *modulus* is a pair of the prime and of the irreducible polynomial; this is told by pairs of an exponent and of the
number there, those with 0 left out, the greatest exponent last.
"""

from slopewords.base.arithmetic import add_scaled, common_triple, multiply, power_of, rest_of, spread_out, trimmed
from slopewords.turn.whole import sign_above

# Functions that can be passed to a system have degrees to 24: these irreducible polynomials never divide a bottom.
NEAR = {
    2: ((0, 1), (3, 1), (25, 1)),
    3: ((0, 1), (3, 2), (25, 1)),
    5: ((0, 1), (7, 2), (25, 1)),
    7: ((0, 1), (4, 1), (25, 1)),
}
# The powers of these have the degree 840, so that a remainder shows whether it is that of a function of degrees to 400.
FAR = {
    2: ((0, 1), (7, 1), (420, 1)),
    3: ((0, 2), (15, 1), (280, 1)),
    5: ((0, 2), (8, 4), (168, 1)),
    7: ((0, 3), (3, 2), (120, 1)),
}


def folded(modulus, poly, lift):
    """The rest of a polynomial by the irreducible one, for the lift 1, or by the power, for the prime as lift."""
    prime, terms = modulus
    size = terms[-1][0] * lift
    while len(poly) > size:
        high = poly[size:]
        poly = trimmed(poly[:size])
        for power, number in terms[:-1]:
            poly = add_scaled(prime, poly, (0,) * (power * lift) + high, -number)
    return poly


def irreducible_of(modulus):
    """The irreducible polynomial."""
    numbers = [0 for _ in range(modulus[1][-1][0] + 1)]
    for power, number in modulus[1]:
        numbers[power] = number
    return trimmed(numbers)


def product_rest(modulus, one, other):
    """The product of two remainders."""
    return folded(modulus, multiply(modulus[0], one, other), modulus[0])


def undone_rest(modulus, rest):
    """The remainder whose product with a remainder is 1, or () if there is none.

    If u times the remainder is 1 by the irreducible polynomial, the powers of both have the product 1 by its power.
    """
    prime = modulus[0]
    low = folded(modulus, rest, 1)
    if not low:
        return ()
    undone = common_triple(prime, low, irreducible_of(modulus))[1]
    return product_rest(modulus, spread_out(prime, undone), power_of(prime, rest, prime - 1))


def is_short_rest(modulus, rest, most):
    """Whether a remainder is that of a function with a top and a bottom of degrees of at most a number.

    The power and the remainder are divided as for a common divisor. The first rest that is short enough is the only
    top that can be right; its bottom has the degree that the rest ahead lacks to that of the power.
    """
    prime = modulus[0]
    ahead, now = spread_out(prime, irreducible_of(modulus)), rest
    least = len(ahead) - most
    while len(now) > most + 1:
        if len(now) < least:
            return False
        ahead, now = now, rest_of(prime, ahead, now)
    return len(ahead) >= least


def further_minors(modulus, minors, row, lift):
    """The minors other than 0 of some rows and a further one, from those of the rows; both are told by their columns.

    Columns are told by a number with a bit for each of them.
    """
    prime = modulus[0]
    sums = {}
    for chosen, minor in minors.items():
        for column, entry in enumerate(row):
            if entry and not (chosen >> column) & 1:
                wider = chosen | (1 << column)
                change = multiply(prime, minor, entry)
                sums[wider] = add_scaled(prime, sums.get(wider, ()), change, sign_above(chosen, column))
    rests = {wider: folded(modulus, total, lift) for wider, total in sums.items()}
    return {wider: rest for wider, rest in rests.items() if rest}


def determinant_rest(modulus, rows):
    """The determinant of a square table of remainders."""
    minors = {0: (1,)}
    for row in rows:
        minors = further_minors(modulus, minors, row, modulus[0])
    return minors.get((1 << len(rows)) - 1, ())


def count_first(modulus, rows):
    """How many rows of remainders, from the first one on, are independent by the irreducible polynomial."""
    minors = {0: (1,)}
    for many, row in enumerate(rows):
        minors = further_minors(modulus, minors, [folded(modulus, entry, 1) for entry in row], 1)
        if not minors:
            return many
    return len(rows)
