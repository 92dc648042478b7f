"""Lines D - f for quotients f of polynomials with integers, over the fractions and modulo primes."""

from math import gcd, lcm

from slopewords.base.arithmetic import common_divisor, divide_short, is_integer, is_within, multiply_short, quotient_of
from slopewords.base.arithmetic import slope_of, trimmed
from slopewords.base.polys import check_prime
from slopewords.errors import InvalidNumber, InvalidOperation, InvalidPoly, Refused
from slopewords.exact.integers import content_of, fraction_roots, is_prime, primitive_of, simple_of, through_values
from slopewords.exact.integers import whole_common, whole_product, whole_quotient, whole_resultant, whole_slope
from slopewords.exact.integers import whole_sum, whole_times
from slopewords.func.functions import Function
from slopewords.line.tables import table_kernel

MOST_NUMBER = 1000000
MOST_DEGREE = 6
MAX_PRIME = 1000
MOST_POLYS = 4


def is_whole(value):
    """Whether the value is a whole polynomial that can be passed."""
    if not isinstance(value, tuple) or len(value) > MOST_DEGREE + 1:
        return False
    return all([is_within(number, -MOST_NUMBER, MOST_NUMBER) for number in value]) and value[-1:] != (0,)


def check_wholes(top, bottom):
    """Refuse the first value that is no whole polynomial."""
    if not is_whole(top) or not is_whole(bottom):
        raise InvalidPoly("not a whole polynomial of a degree of at most 6")


def check_bottom(bottom):
    """Refuse the bottom 0."""
    if not bottom:
        raise InvalidOperation("the lower polynomial is 0")


def line_form(top, bottom):
    """The quadruple k, a, m, d with the quotient k a / (m d)."""
    if not top:
        return 0, (1,), 1, (1,)
    upper, lower = content_of(top), content_of(bottom)
    common = gcd(upper, lower) if lower > 0 else -gcd(upper, lower)
    one, other = primitive_of(top), primitive_of(bottom)
    shared = whole_common(one, other)
    return upper // common, whole_quotient(one, shared), lower // common, whole_quotient(other, shared)


def line_paper(top, bottom):
    """What shows that a line has no power, or its least power."""
    check_wholes(top, bottom)
    check_bottom(bottom)
    form = line_form(top, bottom)
    if not form[0]:
        return "power", 1, ()
    upper, lower = whole_times(form[1], form[0]), form[3]
    double = whole_common(lower, whole_slope(lower))
    if len(double) > 1:
        return "order", double
    if len(upper) >= len(lower):
        return ("degree",)
    slope = whole_times(whole_slope(lower), form[2])
    return residue_paper(upper, lower, slope)


def residue_paper(upper, lower, slope):
    """The paper for single poles, at which the residues are the values of upper / slope."""
    rest = simple_of(residue_poly(upper, lower, slope))
    rows = []
    for residue, part in fraction_roots(rest):
        rest = whole_quotient(rest, (-residue, part))
        place = whole_common(lower, whole_sum(whole_times(upper, part), slope, -residue))
        rows.append((residue, part, place))
    if len(rest) > 1:
        return "residue", rest
    least = 1
    for _, part, _ in rows:
        least = lcm(least, part)
    found = sorted([(residue * (least // part), place) for residue, part, place in rows])
    return "power", least, tuple([(place, many) for many, place in found])


def residue_poly(upper, lower, slope):
    """The polynomial whose roots are the residues, each as often as it is the residue of a place."""
    size = len(lower) - 1
    values = [whole_resultant(lower, whole_sum(upper, slope, -number), size) for number in range(size + 1)]
    return through_values(values)


def is_flat_line(top, bottom, prime):
    """Whether the line is flat at a prime."""
    check_wholes(top, bottom)
    if not is_integer(prime) or not 1 < prime < MAX_PRIME or not is_prime(prime):
        raise InvalidNumber(prime)
    check_bottom(bottom)
    form = line_form(top, bottom)
    if form[2] % prime == 0:
        raise Refused(("bad",))
    return is_flat_form(form, prime)


def is_flat_form(form, prime):
    """Whether the line is flat at a good prime.

    Modulo the prime all poles are single, and each residue is its own power with the prime as exponent.
    """
    upper = trimmed([form[0] * number % prime for number in form[1]])
    lower = trimmed([form[2] * number % prime for number in form[3]])
    common = common_divisor(prime, upper, lower)
    upper, lower = quotient_of(prime, upper, common), quotient_of(prime, lower, common)
    if not upper:
        return True
    slope = slope_of(prime, lower)
    if len(upper) >= len(lower) or common_divisor(prime, lower, slope) != (1,):
        return False
    power = power_within(prime, slope, prime - 1, lower)
    due = divide_short(prime, multiply_short(prime, upper, power), lower)[1]
    return power_within(prime, upper, prime, lower) == due


def power_within(prime, poly, many, modulus):
    """The rest of a power of a polynomial by another one."""
    power = (1,)
    while many:
        if many % 2:
            power = divide_short(prime, multiply_short(prime, power, poly), modulus)[1]
        poly = divide_short(prime, multiply_short(prime, poly, poly), modulus)[1]
        many = many // 2
    return power


def least_unflat(top, bottom):
    """The least good prime below 1000 at which the line is not flat, or None."""
    check_wholes(top, bottom)
    check_bottom(bottom)
    form = line_form(top, bottom)
    for prime in range(2, MAX_PRIME):
        if is_prime(prime) and form[2] % prime and not is_flat_form(form, prime):
            return prime
    return None


def check_polys_tuple(polys):
    """Refuse every value that is no tuple of from one to four whole polynomials."""
    if not isinstance(polys, tuple) or not 1 <= len(polys) <= MOST_POLYS or not all([is_whole(poly) for poly in polys]):
        raise InvalidPoly("not a tuple of one to four whole polynomials")


def wronskian(polys):
    """The determinant of the table of the slopes of whole polynomials."""
    check_polys_tuple(polys)
    rows = [polys]
    for _ in polys[1:]:
        rows.append(tuple([whole_slope(poly) for poly in rows[-1]]))
    return whole_determinant(rows)


def whole_determinant(rows):
    """The determinant of a small square table of whole polynomials, by its first row."""
    if not rows:
        return (1,)
    total = ()
    sign = 1
    for column, entry in enumerate(rows[0]):
        minor = whole_determinant([(*row[:column], *row[column + 1:]) for row in rows[1:]])
        total = whole_sum(total, whole_product(entry, minor), sign)
        sign = -sign
    return total


def sum_paper(polys, prime):
    """What shows that whole polynomials are independent modulo a prime, or that they are not."""
    check_polys_tuple(polys)
    check_prime(prime)
    columns = [Function(prime, trimmed([number % prime for number in poly]), (1,)).parts() for poly in polys]
    kernel = table_kernel(tuple([row for row in zip(*columns)]))
    return ("sum", kernel[0]) if kernel else ("free",)
