"""Places of the line, and poles, residues and traces of functions there."""

from slopewords.base.arithmetic import add_scaled, common_triple, divide, factor_rows, has_no_factor, multiply
from slopewords.base.arithmetic import power_of, quotient_of, rest_of, slope_of, spread_out
from slopewords.base.polys import check_poly, check_prime, has_poly_form
from slopewords.errors import InvalidOperation, InvalidPlace, TooMany
from slopewords.func.functions import check_function, function_of

END = "end"
MOST_BOTTOM = 200
MOST_FRACTIONS = 20


def is_finite_place(prime, value):
    """Whether the value is a place other than the end, for a prime that has been checked."""
    return has_poly_form(prime, value) and value[-1:] == (1,) and has_no_factor(prime, value)


def is_end(value):
    """Whether the value is the end of the line."""
    return isinstance(value, str) and value == END


def is_place(prime, value):
    """Whether the value is a place modulo the prime."""
    check_prime(prime)
    return is_end(value) or is_finite_place(prime, value)


def check_place(prime, place):
    """Refuse every value that is no place modulo a prime that has been checked."""
    if not is_end(place) and not is_finite_place(prime, place):
        raise InvalidPlace("not a place modulo the prime")


def finite_poles(function):
    """The tuple of the pairs of a place other than the end and of the order of the pole there."""
    return factor_rows(function.prime, function.bottom)


def poles(function):
    """The tuple of the pairs of a place and of the order of the pole there."""
    check_function(function)
    found = finite_poles(function)
    if function and function.degree > 0:
        return (*found, (END, function.degree))
    return found


def partial_fractions(function):
    """The pair of the polynomial, and of the tuple of the pairs (place, polynomials) by the powers of the place."""
    check_function(function)
    prime = function.prime
    whole, rest = divide(prime, function.top, function.bottom)
    rows = []
    for place, order in finite_poles(function):
        power = power_of(prime, place, order)
        undone = common_triple(prime, quotient_of(prime, function.bottom, power), power)[1]
        digits = digits_of(prime, rest_of(prime, multiply(prime, rest, undone), power), place, order)
        rows.append((place, digits[::-1]))
    return whole, tuple(rows)


def digits_of(prime, poly, place, many):
    """The tuple of so many polynomials shorter than a place, whose multiples by its powers add up to a polynomial."""
    digits = []
    for _ in range(many):
        poly, digit = divide(prime, poly, place)
        digits.append(digit)
    return tuple(digits)


def of_fractions(prime, poly, rows):
    """The function that a polynomial and fractions add up to."""
    check_prime(prime)
    check_poly(prime, poly)
    if not isinstance(rows, tuple) or len(rows) > MOST_FRACTIONS:
        raise InvalidOperation("not a tuple of at most 20 pairs")
    for row in rows:
        if not is_fraction_row(prime, row):
            raise InvalidOperation("not a pair of a place and of a tuple of shorter polynomials")
    if sum([(len(place) - 1) * len(polys) for place, polys in rows]) > MOST_BOTTOM:
        raise TooMany(MOST_BOTTOM)
    function = function_of(prime, poly, (1,))
    for place, polys in rows:
        function = function + sum_of_row(prime, place, polys)
    return function


def is_fraction_row(prime, row):
    """Whether the value is a pair of a place other than the end and of polynomials that are shorter."""
    if not isinstance(row, tuple) or len(row) != 2 or not is_finite_place(prime, row[0]):
        return False
    if not isinstance(row[1], tuple) or not 1 <= len(row[1]) <= MOST_FRACTIONS:
        return False
    return all([has_poly_form(prime, poly) and len(poly) < len(row[0]) for poly in row[1]])


def sum_of_row(prime, place, polys):
    """The sum of polynomials, the first one divided by a place, the next one by its second power, and so on."""
    top = ()
    for poly in polys:
        top = add_scaled(prime, multiply(prime, top, place), poly, 1)
    return function_of(prime, top, power_of(prime, place, len(polys)))


def residue(function, place):
    """The residue of a function at a place."""
    check_function(function)
    check_place(function.prime, place)
    if is_end(place):
        return end_residue(function)
    return residue_at(function, place)


def end_residue(function):
    """The residue at the end."""
    prime = function.prime
    rest = rest_of(prime, function.top, function.bottom)
    if not rest or len(rest) < len(function.bottom) - 1:
        return ()
    return (prime - rest[-1],)


def order_at(function, place):
    """The order of the pole at a place other than the end, 0 if there is none."""
    order = 0
    whole, rest = divide(function.prime, function.bottom, place)
    while not rest:
        order += 1
        whole, rest = divide(function.prime, whole, place)
    return order


def residue_at(function, place):
    """The residue at a place other than the end.

    The last part of a function, its letter read as x, has lower poles, and a residue there whose power with the
    prime as exponent is the residue of the function. So the pole is made simple, and the powers are taken behind it.
    """
    prime = function.prime
    order = order_at(function, place)
    if not order:
        return ()
    if order > 1:
        return rest_of(prime, spread_out(prime, residue_at(function.last_part(), place)), place)
    slope = slope_of(prime, function.bottom)
    undone = common_triple(prime, slope, place)[1]
    return rest_of(prime, multiply(prime, function.top, undone), place)


def trace(prime, place, poly):
    """The trace of a polynomial at a place."""
    check_prime(prime)
    check_place(prime, place)
    check_poly(prime, poly)
    if is_end(place) and len(poly) > 1:
        raise InvalidOperation("a polynomial of a degree above 0 at the end")
    return trace_at(prime, place, poly)


def trace_at(prime, place, poly):
    """The trace of a polynomial at a place.

    It is the sum of the residues of poly place' / place, so the number of the rest ahead of the last power of place.
    """
    if is_end(place):
        return sum(poly)
    rest = rest_of(prime, multiply(prime, poly, slope_of(prime, place)), place)
    return rest[-1] if len(rest) == len(place) - 1 else 0


def residue_traces(function):
    """The tuple of the pairs of a place and of the trace of the residue there: all other poles, and the end."""
    check_function(function)
    prime = function.prime
    rows = [(place, trace_at(prime, place, residue_at(function, place))) for place, _ in finite_poles(function)]
    return (*rows, (END, trace_at(prime, END, end_residue(function))))
