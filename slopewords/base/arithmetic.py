"""Polynomials of any degrees, without checks of what is passed.

The interface in polys takes degrees to 60 only, but what is worked out can be longer.
A polynomial is a tuple of integers from 0 to prime - 1, the lowest power first, the last one not 0.
"""

# Up to this many numbers the product number by number is quicker than that of long integers.
SHORT = 5
# So many numbers of a polynomial go into one long integer, each with four hexadecimal digits:
# a sum of 90 products of numbers to 6 fits in, even 20 times, and the integers stay below 900 decimal digits.
BLOCK = 90
MOST_SUMMED = 20
# With so many numbers in a quotient, so many of them are found at once, and multiplied by products of long integers.
MANY_STEPS = 10
STEPS = 64
LANE = 4
LANES = ("0000", "0001", "0002", "0003", "0004", "0005", "0006")


def is_integer(value):
    """Whether the value is an integer of at most sixty digits."""
    return isinstance(value, int) and not isinstance(value, bool) and abs(value) < 10 ** 60


def is_within(value, low, high):
    """Whether the value is an integer from low to high."""
    return is_integer(value) and low <= value <= high


def trimmed(numbers):
    """The polynomial with these numbers, without the zeros at its end."""
    size = len(numbers)
    while size and numbers[size - 1] == 0:
        size -= 1
    return tuple(numbers[:size])


def inverse(prime, number):
    """The number from 1 to prime - 1 whose product with a number is 1; 0 if there is none."""
    for guess in range(1, prime):
        if guess * number % prime == 1:
            return guess
    return 0


def scale(prime, poly, factor):
    """A polynomial times an integer."""
    if factor == 1:
        return poly
    return trimmed([factor * number % prime for number in poly])


def make_monic(prime, poly):
    """A polynomial divided by its last number; () stays."""
    if not poly or poly[-1] == 1:
        return poly
    return scale(prime, poly, inverse(prime, poly[-1]))


def add_scaled(prime, one, other, factor):
    """The sum of one polynomial and of another one times an integer."""
    size = max(len(one), len(other))
    left = one + (0,) * (size - len(one))
    right = other + (0,) * (size - len(other))
    return trimmed([(number + factor * further) % prime for number, further in zip(left, right)])


def multiply(prime, one, other):
    """The product of two polynomials."""
    if len(one) > len(other):
        return multiply(prime, other, one)
    if one == (1,):
        return other
    if len(one) <= SHORT:
        return multiply_short(prime, one, other)
    return multiply_long(prime, one, other)


def multiply_short(prime, one, other):
    """The product, number by number."""
    out = [0 for _ in range(len(one) + len(other))]
    for place, factor in enumerate(one):
        if factor:
            stop = place + len(other)
            out[place:stop] = [number + factor * further for number, further in zip(out[place:stop], other)]
    return trimmed([number % prime for number in out])


def multiply_long(prime, one, other):
    """The product by products of long integers, which are far quicker than Python's loops."""
    out = [0 for _ in range(len(one) + len(other))]
    lefts = [packed(one[start:start + BLOCK]) for start in range(0, len(one), BLOCK)]
    rights = [packed(other[start:start + BLOCK]) for start in range(0, len(other), BLOCK)]
    for place in range(len(lefts) + len(rights) - 1):
        first, stop = max(0, place + 1 - len(rights)), min(place + 1, len(lefts))
        for start in range(first, stop, MOST_SUMMED):
            lanes = unpacked(block_sum(lefts, rights, place, start, min(start + MOST_SUMMED, stop)))
            low = place * BLOCK
            high = low + len(lanes)
            out[low:high] = [number + further for number, further in zip(out[low:high], lanes)]
    return trimmed([number % prime for number in out])


def block_sum(lefts, rights, place, start, stop):
    """The sum of the products of blocks whose indices add up to a place."""
    total = 0
    for low in range(start, stop):
        total = total + lefts[low] * rights[place - low]
    return total


def packed(numbers):
    """The long integer that has the numbers as its lanes, the first one lowest."""
    return int("".join([LANES[number] for number in numbers[::-1]]), 16)


def unpacked(whole):
    """The lanes of a long integer, the lowest one first."""
    text = f"{whole:x}"
    many = (len(text) + LANE - 1) // LANE
    text = text.zfill(many * LANE)
    return [int(text[start:start + LANE], 16) for start in range(len(text) - LANE, -1, -LANE)]


def divide(prime, one, other):
    """The pair of the quotient and of the rest, for another polynomial that is not ()."""
    if len(one) - len(other) < MANY_STEPS or len(other) <= STEPS:
        return divide_short(prime, one, other)
    rest = one
    quotient = [0 for _ in range(len(one) - len(other) + 1)]
    while len(rest) - len(other) >= MANY_STEPS:
        low = max(0, len(rest) - len(other) + 1 - STEPS)
        digits = first_digits(prime, rest, other, len(rest) - len(other) + 1 - low)
        quotient[low:low + len(digits)] = digits
        rest = add_scaled(prime, rest, (0,) * low + multiply(prime, digits, other), -1)
    digits, rest = divide_short(prime, rest, other)
    quotient[:len(digits)] = digits
    return trimmed(quotient), rest


def first_digits(prime, one, other, many):
    """The first numbers of a quotient, so many of them: the first numbers of both polynomials tell them."""
    low = max(0, len(other) - many)
    short = other[low:]
    return divide_short(prime, one[len(one) + 1 - len(short) - many:], short)[0]


def divide_short(prime, one, other):
    """The pair of the quotient and of the rest, number by number."""
    rest = list(one)
    quotient = []
    size = len(other)
    unit = inverse(prime, other[-1])
    while len(rest) >= size:
        factor = rest[-1] * unit % prime
        quotient.append(factor)
        if factor:
            low = len(rest) - size
            rest[low:] = [(number - factor * further) % prime for number, further in zip(rest[low:], other)]
        rest.pop()
    return trimmed(quotient[::-1]), trimmed(rest)


def quotient_of(prime, one, other):
    """The quotient alone."""
    if other == (1,):
        return one
    return divide(prime, one, other)[0]


def rest_of(prime, one, other):
    """The rest alone."""
    return divide(prime, one, other)[1]


def common_divisor(prime, one, other):
    """The monic greatest common divisor; () for two ()."""
    while other:
        if len(other) == 1:
            return (1,)
        one, other = other, rest_of(prime, one, other)
    return make_monic(prime, one)


def common_triple(prime, one, other):
    """The triple (g, u, v) with u one + v other = g, the common divisor, and u as short as can be."""
    if not other:
        unit = (inverse(prime, one[-1]),) if one else ()
        return make_monic(prime, one), unit, ()
    old, new = one, other
    left, right = (1,), ()
    while new:
        quotient, rest = divide(prime, old, new)
        old, new = new, rest
        left, right = right, add_scaled(prime, left, multiply(prime, quotient, right), -1)
    unit = inverse(prime, old[-1])
    common = scale(prime, old, unit)
    first = rest_of(prime, scale(prime, left, unit), quotient_of(prime, other, common))
    missing = add_scaled(prime, common, multiply(prime, first, one), -1)
    return common, first, quotient_of(prime, missing, other)


def power_of(prime, poly, many):
    """A power of a polynomial."""
    power = (1,)
    while many:
        if many % 2:
            power = multiply(prime, power, poly)
        many = many // 2
        if many:
            poly = multiply(prime, poly, poly)
    return power


def slope_of(prime, poly):
    """The derivative of a polynomial."""
    return trimmed([place * number % prime for place, number in enumerate(poly)][1:])


def spread_out(prime, poly):
    """A polynomial with x ** prime for x, which is also its power with the prime as exponent."""
    numbers = [0 for _ in range(prime * len(poly))]
    for place, number in enumerate(poly):
        numbers[place * prime] = number
    return trimmed(numbers)


def square_free_rows(prime, poly):
    """Pairs of square-free polynomials, different and without common divisors, and their exponents in a monic one."""
    rows = []
    lift = 1
    while len(poly) > 1:
        rest = common_divisor(prime, poly, slope_of(prime, poly))
        front = quotient_of(prime, poly, rest)
        many = 1
        while len(front) > 1:
            shared = common_divisor(prime, front, rest)
            alone = quotient_of(prime, front, shared)
            if len(alone) > 1:
                rows.append((alone, many * lift))
            front = shared
            rest = quotient_of(prime, rest, shared)
            many += 1
        # What is left is a polynomial in x ** prime, so a power with the prime as exponent.
        poly = rest[::prime]
        lift = lift * prime
    return rows


def coprime_parts(prime, polys):
    """Polynomials without common divisors, of degrees above 0: each one of some others is a product of their powers."""
    found = []
    rest = list(polys)
    while rest:
        poly = rest.pop()
        commons = [common_divisor(prime, poly, part) for part in found]
        shared = [place for place, common in enumerate(commons) if len(common) > 1]
        if shared:
            common = commons[shared[0]]
            part = found.pop(shared[0])
            rest.extend([common, quotient_of(prime, part, common), quotient_of(prime, poly, common)])
        elif len(poly) > 1:
            found.append(poly)
    return found


def kernel_of_numbers(prime, table):
    """A base of all columns of numbers that a square table of numbers makes 0."""
    rows = [list(row) for row in table]
    leads = []
    for column in range(len(rows)):
        rank = len(leads)
        usable = [k for k in range(rank, len(rows)) if rows[k][column]]
        if not usable:
            continue
        at = usable[0]
        unit = inverse(prime, rows[at][column])
        rows[at], rows[rank] = rows[rank], [unit * number % prime for number in rows[at]]
        for k in range(len(rows)):
            factor = rows[k][column]
            if k != rank and factor:
                rows[k] = [(number - factor * lead) % prime for number, lead in zip(rows[k], rows[rank])]
        leads.append(column)
    base = []
    for column in range(len(rows)):
        if column not in leads:
            solution = [0 for _ in rows]
            solution[column] = 1
            for row, lead in zip(rows, leads):
                solution[lead] = -row[column] % prime
            base.append(solution)
    return base


def fixed_polys(prime, poly):
    """A base of all polynomials below a square-free one that are their own powers with the prime as exponent."""
    degree = len(poly) - 1
    image = rest_of(prime, (1,), poly)
    images = []
    for place in range(degree):
        moved = add_scaled(prime, image, (0,) * place + (1,), -1)
        images.append(moved + (0,) * (degree - len(moved)))
        image = rest_of(prime, (0,) * prime + image, poly)
    table = [[numbers[power] for numbers in images] for power in range(degree)]
    return [trimmed(solution) for solution in kernel_of_numbers(prime, table)]


def split_by(prime, poly, guide):
    """The parts of a square-free polynomial at which a fixed one has one value each."""
    parts = [common_divisor(prime, poly, add_scaled(prime, guide, (1,), -number)) for number in range(prime)]
    return [part for part in parts if len(part) > 1]


def split_square_free(prime, poly):
    """The monic irreducible factors of a monic square-free polynomial, by Berlekamp's way."""
    guides = fixed_polys(prime, poly)
    factors = [poly]
    for guide in guides:
        if len(factors) < len(guides):
            factors = [part for factor in factors for part in split_by(prime, factor, guide)]
    return factors


def factor_rows(prime, poly):
    """The tuple of the pairs (factor, exponent) of a polynomial other than (), by degree, then as tuples."""
    found = []
    for part, many in square_free_rows(prime, make_monic(prime, poly)):
        for factor in split_square_free(prime, part):
            found.append((len(factor), factor, many))
    return tuple([(factor, many) for _, factor, many in sorted(found)])


def has_no_factor(prime, poly):
    """Whether a polynomial is irreducible."""
    if len(poly) < 2 or common_divisor(prime, poly, slope_of(prime, poly)) != (1,):
        return False
    return len(fixed_polys(prime, make_monic(prime, poly))) == 1


def monic_polys(prime, degree):
    """All monic polynomials of a degree, ascending."""
    starts = [()]
    for _ in range(degree):
        starts = [start + (number,) for start in starts for number in range(prime)]
    return [start + (1,) for start in starts]


def list_irreducible(prime, degree):
    """All monic irreducible polynomials of a degree, ascending: those that are no product of lesser ones."""
    products = {}
    for lesser in range(1, degree // 2 + 1):
        cofactors = monic_polys(prime, degree - lesser)
        for factor in list_irreducible(prime, lesser):
            for cofactor in cofactors:
                products[multiply(prime, factor, cofactor)] = True
    return [poly for poly in monic_polys(prime, degree) if poly not in products]


def binomial_row(prime, many):
    """The binomials of a number over 0, 1 and so on to itself, modulo the prime."""
    row = [1]
    for _ in range(many):
        row = [(number + further) % prime for number, further in zip([0, *row], [*row, 0])]
    return row
