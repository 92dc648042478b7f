"""Polynomials modulo a prime: tuples of integers, the lowest power first."""

from slopewords.base.arithmetic import add_scaled, common_divisor, common_triple, divide, factor_rows
from slopewords.base.arithmetic import has_no_factor, is_integer, is_within, list_irreducible, multiply
from slopewords.base.arithmetic import power_of, slope_of
from slopewords.errors import InvalidNumber, InvalidOperation, InvalidPoly

PRIMES = (2, 3, 5, 7)
MAX_POWER = 60
MOST_LISTED = 6


def check_prime(prime):
    """Refuse every value that is not one of the primes."""
    if not is_integer(prime) or prime not in PRIMES:
        raise InvalidNumber(prime)


def check_poly(prime, poly):
    """Refuse every value that is no polynomial modulo a prime that has been checked."""
    if not has_poly_form(prime, poly):
        raise InvalidPoly("not a polynomial modulo the prime, of a degree of at most 60")


def check_polys(prime, one, other):
    """Refuse a wrong prime, then the first value that is no polynomial."""
    check_prime(prime)
    check_poly(prime, one)
    check_poly(prime, other)


def has_poly_form(prime, value):
    """Whether the value is a polynomial that can be passed, for a prime that has been checked."""
    if not isinstance(value, tuple) or len(value) > MAX_POWER + 1:
        return False
    return all([is_within(number, 0, prime - 1) for number in value]) and value[-1:] != (0,)


def is_poly(prime, value):
    """Whether the value is a polynomial modulo the prime, of a degree of at most 60."""
    check_prime(prime)
    return has_poly_form(prime, value)


def poly_sum(prime, one, other, *, times=1):
    """The sum of one polynomial and of another one, taken so many times."""
    check_polys(prime, one, other)
    if not is_integer(times):
        raise InvalidNumber(times)
    return add_scaled(prime, one, other, times % prime)


def poly_product(prime, one, other):
    """The product of two polynomials."""
    check_polys(prime, one, other)
    return multiply(prime, one, other)


def poly_division(prime, one, other):
    """The pair of the quotient and of the rest."""
    check_polys(prime, one, other)
    if not other:
        raise InvalidOperation("a division by 0")
    return divide(prime, one, other)


def common_poly(prime, one, other):
    """The monic greatest common divisor; () for two ()."""
    check_polys(prime, one, other)
    return common_divisor(prime, one, other)


def common_paper(prime, one, other):
    """The triple (g, u, v) with u one + v other = g, g being the greatest common divisor."""
    check_polys(prime, one, other)
    return common_triple(prime, one, other)


def poly_power(prime, poly, many):
    """A power of a polynomial."""
    check_prime(prime)
    check_poly(prime, poly)
    if not is_within(many, 0, MAX_POWER):
        raise InvalidNumber(many)
    return power_of(prime, poly, many)


def poly_slope(prime, poly):
    """The slope of a polynomial."""
    check_prime(prime)
    check_poly(prime, poly)
    return slope_of(prime, poly)


def poly_at(prime, poly, number):
    """The value of a polynomial at an integer, from 0 to prime - 1."""
    check_prime(prime)
    check_poly(prime, poly)
    if not is_integer(number):
        raise InvalidNumber(number)
    worth = 0
    for further in poly[::-1]:
        worth = (worth * number + further) % prime
    return worth


def is_irreducible(prime, poly):
    """Whether a polynomial is irreducible; numbers are not."""
    check_prime(prime)
    check_poly(prime, poly)
    return has_no_factor(prime, poly)


def poly_factors(prime, poly):
    """The tuple of the pairs (factor, exponent) of the different monic irreducible factors."""
    check_prime(prime)
    check_poly(prime, poly)
    if not poly:
        raise InvalidOperation("0 has no factors")
    return factor_rows(prime, poly)


def irreducibles(prime, degree):
    """A generator of the monic irreducible polynomials of a degree, ascending."""
    check_prime(prime)
    if not is_within(degree, 1, MOST_LISTED):
        raise InvalidNumber(degree)
    for poly in list_irreducible(prime, degree):
        yield poly
