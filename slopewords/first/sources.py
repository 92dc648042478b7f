"""Functions with a told turn: sources of functions of t, and places that bar them."""

from slopewords.base.arithmetic import add_scaled, common_divisor, inverse, is_integer, kernel_of_numbers, multiply
from slopewords.base.arithmetic import power_of, rest_of, scale, slope_of, spread_out, trimmed
from slopewords.base.polys import check_poly, check_prime
from slopewords.errors import InvalidOperation, InvalidPlace, TooMany
from slopewords.func.functions import Function, check_function, function_of
from slopewords.func.places import finite_poles, is_end, is_finite_place, residue_at, residue_traces, trace_at
from slopewords.func.slopes import turn_of

MAX_TOP = 40
MAX_PLACE = 12


def check_told(function):
    """Refuse every value that is no function, and functions that are too long."""
    check_function(function)
    if max(len(function.top), len(function.bottom)) > MAX_TOP + 1:
        raise TooMany(MAX_TOP)


def has_source(function):
    """Whether the function of t has a source."""
    return not bars(function)


def bars(function):
    """The tuple of the pairs of a place and of the trace of the residue there, if this is not 0."""
    check_told(function)
    return bars_of(function)


def bars_of(function):
    """The pairs of a place and of a trace other than 0."""
    return tuple([(place, trace) for place, trace in residue_traces(function) if trace])


def source_paper(function):
    """The clean source of the function of t, or the first place that bars all sources."""
    check_told(function)
    barring = bars_of(function)
    if barring:
        return "place", barring[0][0], barring[0][1]
    return "source", source_of(function)


def source_of(function):
    """The clean source of a function that has one: all functions ahead of the simple end, and a source of this one."""
    steps = list_shrunk(function)
    total = Function.number(function.prime, 0)
    for step in steps[:-1]:
        total = total + step
    for place, _ in finite_poles(steps[-1]):
        total = total + source_at(steps[-1], place)
    return clean_pair(total)[0]


def source_at(function, place):
    """A source of what a function with a simple pole at a place has there."""
    prime = function.prime
    poly = source_at_place(prime, place, residue_at(function, place))
    return function_of(prime, rest_of(prime, multiply(prime, poly, slope_of(prime, place)), place), place)


def is_source_paper(function, value):
    """Whether the value tells any source of the function of t, or any place that bars all sources."""
    check_told(function)
    if not isinstance(value, tuple) or len(value) < 2 or not isinstance(value[0], str):
        return False
    if value[0] == "source":
        return len(value) == 2 and has_turn(function, value[1])
    return value[0] == "place" and len(value) == 3 and has_trace(function, value[1], value[2])


def has_turn(function, value):
    """Whether the value is a function with this turn."""
    return isinstance(value, Function) and value.prime == function.prime and turn_of(value) == function


def has_trace(function, place, trace):
    """Whether the values are a place and the trace, other than 0, of the residue there."""
    if not is_integer(trace) or not (is_end(place) or is_finite_place(function.prime, place)):
        return False
    return (place, trace) in bars_of(function)


def cleaned(function):
    """The pair (g, u) with the function as g + u' / u, g being the clean source of its turn."""
    check_told(function)
    return clean_pair(function)


def clean_pair(function):
    """The pair (g, u): where the residue has a lowest number other than 0, so often stands the place in u."""
    prime = function.prime
    poly = (1,)
    for place, _ in finite_poles(function):
        found = residue_at(function, place)
        if found:
            poly = multiply(prime, poly, power_of(prime, place, found[0]))
    return function - function_of(prime, slope_of(prime, poly), poly), poly


def each_shrunk(function):
    """A generator of the function, of what it is shrunk to, and so on up to the simple end."""
    check_told(function)
    for step in list_shrunk(function):
        yield step


def list_shrunk(function):
    """The function, what it is shrunk to, and so on up to the simple end."""
    steps = [function]
    while not is_simple(steps[-1]):
        steps.append(steps[-1].last_part())
    return steps


def is_simple(function):
    """Whether a function has no poles of orders above 1 and no polynomial part."""
    if len(function.top) >= len(function.bottom):
        return False
    return common_divisor(function.prime, function.bottom, slope_of(function.prime, function.bottom)) == (1,)


def place_source(prime, place, poly):
    """The polynomial u with the lowest number 0 that is a polynomial more than its root with the prime, or None."""
    check_prime(prime)
    if not is_finite_place(prime, place):
        raise InvalidPlace("not a place other than the end")
    check_poly(prime, poly)
    if len(poly) >= len(place):
        raise InvalidOperation("the polynomial is not shorter than the place")
    if len(place) > MAX_PLACE + 1:
        raise TooMany(MAX_PLACE)
    if trace_at(prime, place, poly):
        return None
    return source_at_place(prime, place, poly)


def source_at_place(prime, place, poly):
    """The polynomial u for a polynomial with the trace 0.

    With both sides to the power with the prime as exponent, u ** prime - u is told, modulo the place. The numbers of u
    but for the lowest one, and 1, then are a column of which a square table of numbers makes 0.
    """
    degree = len(place) - 1
    told = rest_of(prime, spread_out(prime, poly), place)
    columns = []
    for power in range(1, degree):
        image = rest_of(prime, (0,) * (power * prime) + (1,), place)
        columns.append(add_scaled(prime, image, (0,) * power + (1,), -1))
    columns.append(scale(prime, told, prime - 1))
    table = [[column[row] if row < len(column) else 0 for column in columns] for row in range(degree)]
    solution = [numbers for numbers in kernel_of_numbers(prime, table) if numbers[-1]][0]
    unit = inverse(prime, solution[-1])
    return trimmed([0] + [unit * number % prime for number in solution[:-1]])
