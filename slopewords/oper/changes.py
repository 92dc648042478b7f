"""Operators turned over and tilted, and changes of letters."""

from slopewords.base.arithmetic import add_scaled, binomial_row, inverse, is_within, multiply, power_of, scale
from slopewords.base.arithmetic import slope_of, trimmed
from slopewords.errors import InvalidNumber, InvalidOperation
from slopewords.func.functions import Function, check_function, check_same_prime, clear_bottoms, made_function
from slopewords.func.functions import power_quotient, slope_top
from slopewords.oper.division import row_of_values
from slopewords.oper.operators import Operator, add_entries, check_operator, made_operator, slope_entries


def turned_over(operator):
    """The sum of all (-D) ** i ai, for the functions ai of the operator."""
    check_operator(operator)
    return turn_over(operator)


def turn_over(operator):
    """The operator turned over.

    It has a bottom B for which B times it has polynomials for functions. Turned over, it is this one turned over, with
    1 / B behind it; so functions are brought to lowest terms once, and divided by divisors of B alone.
    """
    if not operator:
        return operator
    prime = operator.prime
    tops, bottom = clear_bottoms(operator.entries)
    size = min(len(tops), prime)
    found = tops_behind(prime, turn_tops(prime, tops), undone_slopes(prime, bottom, size))
    return made_operator(prime, [power_quotient(prime, top, bottom, size) for top in found])


def turn_tops(prime, tops):
    """The operator with these polynomials, turned over: all that comes behind one of them is multiplied by -D."""
    found = []
    for top in tops[::-1]:
        slopes = [slope_of(prime, further) for further in found]
        moved = [add_scaled(prime, further, slope, 1) for further, slope in zip([(), *found], [*slopes, ()])]
        found = [scale(prime, further, prime - 1) for further in moved]
        found[0] = add_scaled(prime, found[0], top, 1)
    return found


def undone_slopes(prime, bottom, many):
    """So many slopes of 1 / bottom, itself first: their tops over bottom ** many."""
    slope = slope_of(prime, bottom)
    tops = [(1,)]
    for number in range(1, many):
        tops.append(slope_top(prime, tops[-1], bottom, slope, number))
    return [multiply(prime, top, power_of(prime, bottom, many - 1 - number)) for number, top in enumerate(tops)]


def tops_behind(prime, tops, slopes):
    """The operator with these tops times a function behind it, for the tops of the slopes of the function.

    Slopes from a number on can be left out if they are 0.
    """
    found = [() for _ in tops]
    for number, top in enumerate(tops):
        for index, factor in enumerate(binomial_row(prime, number)[:len(slopes)]):
            if factor:
                place = number - index
                found[place] = add_scaled(prime, found[place], multiply(prime, top, slopes[index]), factor)
    return found


def check_changed(value):
    """Refuse every value that is no function and no operator."""
    if not isinstance(value, Function) and not isinstance(value, Operator):
        raise InvalidOperation("not a function and not an operator")


def check_shift(number, low, prime):
    """Refuse every value that is no integer from low to prime - 1."""
    if not is_within(number, low, prime - 1):
        raise InvalidNumber(number)


def moved(value, number):
    """A function or an operator with x + number for x."""
    check_changed(value)
    check_shift(number, 0, value.prime)
    if isinstance(value, Function):
        return move_function(value, number)
    return made_operator(value.prime, [move_function(entry, number) for entry in value.entries])


def move_function(function, number):
    """A function with x + number for x; it stays in lowest terms."""
    prime = function.prime
    return made_function(prime, move_poly(prime, function.top, number), move_poly(prime, function.bottom, number))


def move_poly(prime, poly, number):
    """A polynomial with x + number for x."""
    found = ()
    for further in poly[::-1]:
        found = add_scaled(prime, (further, *found), found, number)
    return found


def stretched(value, number):
    """A function with number x for x, or an operator with, besides, D divided by the number for D."""
    check_changed(value)
    check_shift(number, 1, value.prime)
    if isinstance(value, Function):
        return stretch_function(value, number, 1)
    prime = value.prime
    unit = inverse(prime, number)
    factor = 1
    entries = []
    for entry in value.entries:
        entries.append(stretch_function(entry, number, factor))
        factor = factor * unit % prime
    return made_operator(prime, entries)


def stretch_function(function, number, factor):
    """A function with number x for x, times an integer; it stays in lowest terms."""
    prime = function.prime
    top = stretch_poly(prime, function.top, number)
    return over_monic(prime, scale(prime, top, factor), stretch_poly(prime, function.bottom, number))


def stretch_poly(prime, poly, number):
    """A polynomial with number x for x."""
    found = []
    power = 1
    for further in poly:
        found.append(further * power % prime)
        power = power * number % prime
    return tuple(found)


def over_monic(prime, top, bottom):
    """The function of polynomials without a common divisor, whose lower one need not be monic."""
    unit = inverse(prime, bottom[-1])
    return made_function(prime, scale(prime, top, unit), scale(prime, bottom, unit))


def inverted(value):
    """A function with 1 / x for x, or an operator with, besides, -x x D for D."""
    check_changed(value)
    if isinstance(value, Function):
        return invert_function(value)
    return invert_operator(value)


def invert_function(function):
    """A function with 1 / x for x.

    Read backwards, top and bottom are not divided by x and have no common divisor; only powers of x come in.
    """
    prime = function.prime
    top, bottom = trimmed(function.top[::-1]), trimmed(function.bottom[::-1])
    shift = len(function.bottom) - len(function.top)
    if not top:
        return function
    if shift < 0:
        return over_monic(prime, top, (0,) * -shift + bottom)
    return over_monic(prime, (0,) * shift + top, bottom)


def invert_operator(operator):
    """An operator with 1 / x for x and -x x D for D."""
    prime = operator.prime
    factor = Function(prime, (0, 0, prime - 1), (1,))
    power = [Function.number(prime, 1)]
    total = []
    for entry in operator.entries:
        changed = invert_function(entry)
        total = add_entries(total, [changed * further for further in power])
        power = [factor * further for further in slope_entries(power)]
    return made_operator(prime, total)


def tilted(operator, function):
    """The operator with D + function for D."""
    check_operator(operator)
    check_function(function)
    check_same_prime((operator, function))
    return tilt(operator, function)


def tilt(operator, function):
    """The operator tilted: (D + f) ** n is the sum of all binomials times values at f times powers of D."""
    prime = operator.prime
    values = row_of_values(function, len(operator))
    rows = [binomial_row(prime, index) for index in range(len(operator))]
    entries = []
    for low in range(len(operator)):
        total = Function.number(prime, 0)
        for index in range(low, len(operator)):
            if rows[index][low]:
                total = total + operator.entries[index] * values[index - low] * Function.number(prime, rows[index][low])
        entries.append(total)
    return made_operator(prime, entries)
