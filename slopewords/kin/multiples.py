"""Multiples of telling rows by functions, and what becomes of the poles of the operator, without checks.

The operator of h times a row has D less h' / h for D. With a place in h, poles of the operator at this place can fall,
or rise. Only the exponent of the place modulo the prime matters, as a function of t goes along with D.
"""

from slopewords.base.arithmetic import add_scaled, binomial_row, common_triple, coprime_parts, divide, factor_rows
from slopewords.base.arithmetic import multiply, power_of, quotient_of, rest_of, slope_of, square_free_rows
from slopewords.func.functions import function_of


def best_exponents(prime, operator, bottom):
    """The triples of a place of poles of an operator, of the exponent with which they are least, and of their order.

    The order is that of the worst pole which a function of the multiple's operator has there. The bottom is that of
    the system. Some places can stand together, as the product of their polynomials.
    """
    found = []
    for part in pole_parts(prime, operator, bottom):
        orders = [times_in(prime, entry.bottom, part) for entry in operator.entries]
        if max(orders) == 1 and rest_of(prime, bottom, part):
            # Simple poles at places at which the table has none: hardly any multiple is without them.
            found.append((part, 0, 1))
        else:
            for place, _ in factor_rows(prime, part):
                order, exponent = least_order(prime, operator, place, orders)
                found.append((place, exponent, order))
    return found


def told_degree(operator, exponents):
    """About the greatest degree in the operator of a multiple with the best exponents, given the operator itself.

    Behind a multiple by h, not 1, the function ahead of D ** 0 has at each place a pole of the order of the worst one.
    """
    highest = max([entry.degree for entry in operator.entries if entry])
    return highest + sum([order * (len(place) - 1) for place, _, order in exponents])


def pole_parts(prime, operator, bottom):
    """Square-free polynomials without common divisors: their factors are the places of the poles of an operator.

    Those of the bottom stand apart.
    """
    bottoms = [entry.bottom for entry in operator.entries]
    parts = [part for poly in [*bottoms, bottom] for part, _ in square_free_rows(prime, poly)]
    return [part for part in coprime_parts(prime, parts) if not all([rest_of(prime, poly, part) for poly in bottoms])]


def times_in(prime, poly, part):
    """How often a polynomial divides another one, which is not ()."""
    many = 0
    quotient, rest = divide(prime, poly, part)
    while not rest:
        many += 1
        quotient, rest = divide(prime, quotient, part)
    return many


def least_order(prime, operator, place, orders):
    """The pair of the least order of the worst pole at a place, for all exponents, and of this exponent."""
    many = max(orders)
    if many == 1 and not may_vanish(prime, operator, place):
        return 1, 0
    high = many + operator.degree
    level = power_of(prime, place, high)
    tops = [local_top(prime, entry, place, order, many, level) for entry, order in zip(operator.entries, orders)]
    return min([(worst_order(prime, place, tops, high, exponent), exponent) for exponent in range(prime)])


def may_vanish(prime, operator, place):
    """Whether simple poles at a place can vanish in a multiple: the function ahead of D ** (n - 1) tells it.

    The exponent c takes n c from its residue. If n is below the prime, only the exponent 1 can make poles vanish.
    """
    size = operator.degree
    entry = operator.entries[size - 1]
    if rest_of(prime, entry.bottom, place):
        return size % prime == 0
    slope = slope_of(prime, entry.bottom)
    return any([not rest_of(prime, add_scaled(prime, entry.top, slope, -size * exponent), place)
                for exponent in range(1, 2 if size < prime else prime)])


def local_top(prime, function, place, order, many, level):
    """A function with a pole of a told order, times a power of the place, modulo the level, a greater power."""
    rest = quotient_of(prime, function.bottom, power_of(prime, place, order))
    undone = common_triple(prime, rest_of(prime, rest, level), level)[1]
    top = multiply(prime, function.top, power_of(prime, place, many - order))
    return rest_of(prime, multiply(prime, rest_of(prime, top, level), undone), level)


def worst_order(prime, place, tops, high, exponent):
    """The greatest order of a pole at a place in the operator of a multiple; the tops are told to place ** high."""
    size = len(tops) - 1
    powers = [(1,)]
    tilts = [(1,)]
    for number in range(size):
        powers.append(multiply(prime, powers[-1], place))
        tilts.append(tilted_top(prime, place, tilts[-1], number, exponent))
    level = power_of(prime, place, high)
    worst = 0
    for index in range(size):
        total = ()
        for further in range(index, size + 1):
            lift = multiply(prime, tilts[further - index], powers[size - further + index])
            factor = binomial_row(prime, further)[index]
            total = add_scaled(prime, total, multiply(prime, tops[further], lift), factor)
        total = rest_of(prime, total, level)
        if total:
            worst = max(worst, high - times_in(prime, total, place))
    return worst


def tilted_top(prime, place, tilt, number, exponent):
    """The slope of tilt / place ** number less its product with h' / h, times the next power of the place."""
    rising = multiply(prime, slope_of(prime, tilt), place)
    return add_scaled(prime, rising, multiply(prime, tilt, slope_of(prime, place)), -number - exponent)


def multiple_row(prime, row, exponents):
    """The row of functions that is h times a row of polynomials; h is told by its places and their exponents."""
    top, bottom = (1,), (1,)
    for place, exponent, _ in exponents:
        if 2 * exponent <= prime:
            top = multiply(prime, top, power_of(prime, place, exponent))
        else:
            bottom = multiply(prime, bottom, power_of(prime, place, prime - exponent))
    return tuple([function_of(prime, multiply(prime, top, entry), bottom) for entry in row])
