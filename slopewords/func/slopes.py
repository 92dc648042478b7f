"""Which functions are slopes, and which are slopes of logarithms."""

from slopewords.base.arithmetic import inverse, is_within, multiply, power_of, slope_of
from slopewords.base.polys import check_poly, check_prime
from slopewords.errors import InvalidNumber, InvalidOperation
from slopewords.func.functions import Function, check_function, function_of, join_parts
from slopewords.func.places import finite_poles, residue_at

MAX_SHRUNK = 20


def is_slope(function):
    """Whether the function is the slope of a function."""
    check_function(function)
    return not function.last_part()


def slope_source(function):
    """The function without part 0 that has this slope, or None."""
    check_function(function)
    prime = function.prime
    parts = function.parts()
    if parts[-1]:
        return None
    raised = [parts[place - 1] * Function.number(prime, inverse(prime, place)) for place in range(1, prime)]
    return join_parts([Function.number(prime, 0), *raised])


def shrunk(function, *, times=1):
    """The last part, its letter read as x, taken so many times."""
    check_function(function)
    if not is_within(times, 0, MAX_SHRUNK):
        raise InvalidNumber(times)
    for _ in range(times):
        function = function.last_part()
    return function


def is_log_slope(function):
    """Whether the function is u' / u for some function u."""
    check_function(function)
    return function.last_part() == function


def log_source(function):
    """The polynomial u with each place as often as the residue there tells, or None."""
    if not is_log_slope(function):
        return None
    prime = function.prime
    poly = (1,)
    for place, _ in finite_poles(function):
        many = residue_at(function, place)[0]
        poly = multiply(prime, poly, power_of(prime, place, many))
    return poly


def log_slope(prime, poly):
    """The function u' / u for a polynomial u."""
    check_prime(prime)
    check_poly(prime, poly)
    if not poly:
        raise InvalidOperation("0 has no logarithm")
    return function_of(prime, slope_of(prime, poly), poly)


def log_fault(function):
    """The first thing that shows that the function is no log slope, or None."""
    check_function(function)
    rows = finite_poles(function)
    for place, order in rows:
        if order > 1:
            return "order", place
    if function and function.degree >= 0:
        return ("degree",)
    for place, _ in rows:
        if len(residue_at(function, place)) > 1:
            return "residue", place
    return None


def turn_of(function):
    """The function of t, here with x for t, that is the turn of D less the function."""
    check_function(function)
    return function - function.last_part()
