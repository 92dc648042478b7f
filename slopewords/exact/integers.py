"""Polynomials with integers of any sizes, the lowest power first, without checks of what is passed."""

from math import gcd

from slopewords.base.arithmetic import common_divisor, slope_of, trimmed


def content_of(poly):
    """The greatest common divisor of all integers, with the sign of the last one; 1 for ()."""
    content = 0
    for number in poly:
        content = gcd(content, number)
    if not poly:
        return 1
    return content if poly[-1] > 0 else -content


def primitive_of(poly):
    """A polynomial divided by its content."""
    content = content_of(poly)
    return tuple([number // content for number in poly])


def whole_sum(one, other, factor):
    """The sum of one polynomial and of another one times an integer."""
    size = max(len(one), len(other))
    left = one + (0,) * (size - len(one))
    right = other + (0,) * (size - len(other))
    return trimmed([number + factor * further for number, further in zip(left, right)])


def whole_times(poly, factor):
    """A polynomial times an integer."""
    return whole_sum((), poly, factor)


def whole_product(one, other):
    """The product of two polynomials."""
    out = [0 for _ in range(len(one) + len(other))]
    for place, factor in enumerate(one):
        for shift, number in enumerate(other):
            out[place + shift] = out[place + shift] + factor * number
    return trimmed(out)


def whole_slope(poly):
    """The derivative."""
    return trimmed([place * number for place, number in enumerate(poly)][1:])


def whole_division(one, other):
    """The pair of a quotient and of a rest of a multiple of one by an integer, both times other numbers than 0."""
    quotient, rest = (), one
    while len(rest) >= len(other):
        shift = (0,) * (len(rest) - len(other))
        factor = rest[-1]
        quotient = whole_sum(whole_times(quotient, other[-1]), (*shift, factor), 1)
        rest = whole_sum(whole_times(rest, other[-1]), shift + other, -factor)
    return quotient, rest


def whole_common(one, other):
    """The primitive common divisor of the greatest degree of two polynomials, not both ()."""
    while other:
        one, other = other, primitive_of(whole_division(one, other)[1])
    return primitive_of(one)


def whole_quotient(one, other):
    """The primitive polynomial whose products with a divisor of a polynomial are multiples of this by integers."""
    return primitive_of(whole_division(one, other)[0])


def number_determinant(table):
    """The determinant of a square table of integers; all divisions are exact."""
    rows = [list(row) for row in table]
    last, sign = 1, 1
    for column in range(len(rows)):
        usable = [place for place in range(column, len(rows)) if rows[place][column]]
        if not usable:
            return 0
        if usable[0] != column:
            rows[column], rows[usable[0]] = rows[usable[0]], rows[column]
            sign = -sign
        lead = rows[column]
        for place in range(column + 1, len(rows)):
            factor = rows[place][column]
            rows[place] = [(lead[column] * number - factor * further) // last
                           for number, further in zip(rows[place], lead)]
        last = lead[column]
    return sign * last


def whole_resultant(one, other, many):
    """The determinant that is 0 if one and another polynomial, read with so many numbers, have a common root."""
    size = len(one) - 1
    filled = other + (0,) * (many - len(other))
    rows = [(0,) * place + one + (0,) * (many - 2 - place) for place in range(many - 1)]
    rows.extend([(0,) * place + filled + (0,) * (size - 1 - place) for place in range(size)])
    return number_determinant(rows)


def through_values(values):
    """The polynomial with integers that has these values at 0, 1 and so on, of a lesser degree than they are many."""
    total, base = (), (1,)
    factor = 1
    for number in range(len(values)):
        total = whole_sum(total, base, values[0] // factor)
        values = [further - value for value, further in zip(values, values[1:])]
        base = whole_product(base, (-number, 1))
        factor = factor * (number + 1)
    return total


def whole_at(poly, number):
    """The value at an integer."""
    worth = 0
    for further in poly[::-1]:
        worth = worth * number + further
    return worth


def simple_of(poly):
    """The primitive polynomial with the roots of a polynomial other than (), each once."""
    return whole_quotient(poly, whole_common(poly, whole_slope(poly)))


def fraction_roots(poly):
    """The roots that are fractions of a polynomial with single roots: pairs of coprime integers, the lower one above 0.

    With the last number c and w for c times the letter, the polynomial becomes one with the last number 1; its roots
    that are fractions are integers.
    """
    head = poly[-1]
    size = len(poly) - 1
    monic = [1]
    lift = 1
    for number in poly[:size][::-1]:
        monic.append(number * lift)
        lift = lift * head
    found = []
    for root in integer_roots(tuple(monic[::-1])):
        common = gcd(root, head)
        found.append((root // common, head // common))
    return found


def integer_roots(poly):
    """The integers that are roots of a polynomial with single roots and with the last number 1.

    Modulo a prime at which roots stay single each root is lifted to powers of this prime, until they exceed the roots.
    """
    prime = single_prime(poly)
    bound = 2 * (1 + max([abs(number) for number in poly]))
    found = []
    for number in range(prime):
        if whole_at(poly, number) % prime == 0:
            root = lifted_root(prime, poly, number, bound)
            if whole_at(poly, root) == 0:
                found.append(root)
    return found


def single_prime(poly):
    """The least prime modulo which a polynomial with single roots and with the last number 1 has single roots."""
    prime = 2
    while not is_prime(prime) or not has_single_roots(prime, poly):
        prime += 1
    return prime


def has_single_roots(prime, poly):
    """Whether a polynomial has single roots modulo a prime."""
    rest = trimmed([number % prime for number in poly])
    return common_divisor(prime, rest, slope_of(prime, rest)) == (1,)


def is_prime(number):
    """Whether an integer from 2 on is a prime."""
    divisor = 2
    while divisor * divisor <= number:
        if number % divisor == 0:
            return False
        divisor += 1
    return True


def lifted_root(prime, poly, root, bound):
    """The integer of the least size that is a root modulo a power of the prime above a bound, from a single root."""
    slope = whole_at(whole_slope(poly), root) % prime
    unit = [number for number in range(prime) if number * slope % prime == 1][0]
    power = prime
    while power <= bound:
        step = whole_at(poly, root) // power * unit % prime
        root = (root - step * power) % (power * prime)
        power = power * prime
    return root if 2 * root < power else root - power
