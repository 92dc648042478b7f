"""Functions: quotients of two polynomials modulo a prime, in lowest terms."""

from slopewords.base.arithmetic import add_scaled, common_divisor, inverse, is_integer, is_within, multiply
from slopewords.base.arithmetic import power_of, quotient_of, scale, slope_of, spread_out, trimmed
from slopewords.base.polys import check_poly, check_prime
from slopewords.errors import InvalidFunction, InvalidNumber, InvalidOperation
from slopewords.line.elimination import count_rank, short_rows

MAX_SLOPES = 20
MAX_RAISED = 20
MOST_JUDGED = 8


class Function:
    """A quotient of two polynomials, the lower one monic, both without a common divisor. It never changes."""

    def __init__(self, prime, top, bottom):
        check_prime(prime)
        check_poly(prime, top)
        check_poly(prime, bottom)
        if not bottom:
            raise InvalidOperation("the lower polynomial is 0")
        lowest = lowest_terms(prime, top, bottom)
        self._prime = prime
        self._top = lowest[0]
        self._bottom = lowest[1]

    @classmethod
    def number(cls, prime, number):
        """The function that is an integer modulo the prime."""
        check_prime(prime)
        if not is_integer(number):
            raise InvalidNumber(number)
        return cls(prime, trimmed((number % prime,)), (1,))

    @classmethod
    def letter(cls, prime):
        """The function x."""
        return cls(prime, (0, 1), (1,))

    @classmethod
    def of_parts(cls, parts):
        """The function with these parts."""
        check_functions(parts)
        if any([part.prime != len(parts) for part in parts]):
            raise InvalidOperation("the parts are not as many as their prime")
        return join_parts(parts)

    @property
    def prime(self):
        """The prime."""
        return self._prime

    @property
    def top(self):
        """The upper polynomial."""
        return self._top

    @property
    def bottom(self):
        """The lower polynomial, which is monic."""
        return self._bottom

    @property
    def degree(self):
        """The degree of the top less that of the bottom, None for 0."""
        if not self._top:
            return None
        return len(self._top) - len(self._bottom)

    def slope(self, *, times=1):
        """The slope of this number."""
        if not is_within(times, 0, MAX_SLOPES):
            raise InvalidNumber(times)
        function = self
        for _ in range(times):
            function = slope_once(function)
        return function

    def parts(self):
        """The tuple of all parts, functions of t."""
        wide = wide_top(self)
        return tuple([part_of_top(self, wide, place) for place in range(self._prime)])

    def last_part(self):
        """The last one of the parts."""
        return part_of_top(self, wide_top(self), self._prime - 1)

    def spread(self):
        """The function with x ** prime for its letter."""
        return made_function(self._prime, spread_out(self._prime, self._top), spread_out(self._prime, self._bottom))

    def gathered(self):
        """The function of which this one is the spread."""
        if slope_once(self):
            raise InvalidOperation("the slope of the function is not 0")
        return made_function(self._prime, self._top[::self._prime], self._bottom[::self._prime])

    def __add__(self, other):
        if not isinstance(other, Function):
            return NotImplemented
        return add_function(self, other, 1)

    def __sub__(self, other):
        if not isinstance(other, Function):
            return NotImplemented
        return add_function(self, other, -1)

    def __mul__(self, other):
        if not isinstance(other, Function):
            return NotImplemented
        return multiply_function(self, other)

    def __floordiv__(self, other):
        if not isinstance(other, Function):
            return NotImplemented
        check_same_prime((self, other))
        if not other:
            raise InvalidOperation("a division by 0")
        return multiply_function(self, turned_round(other))

    def __neg__(self):
        return made_function(self._prime, scale(self._prime, self._top, self._prime - 1), self._bottom)

    def __pow__(self, other):
        if not is_within(other, 0, MAX_RAISED):
            raise InvalidNumber(other)
        prime = self._prime
        return made_function(prime, power_of(prime, self._top, other), power_of(prime, self._bottom, other))

    def __eq__(self, other):
        return (isinstance(other, Function) and self._prime == other._prime and self._top == other._top
                and self._bottom == other._bottom)

    def __bool__(self):
        return bool(self._top)

    def __str__(self):
        if self._bottom == (1,):
            return f"{poly_text(self._top)}"
        return f"({poly_text(self._top)})/({poly_text(self._bottom)})"


def made_function(prime, top, bottom):
    """The function of polynomials in lowest terms, of any degrees: the class itself takes none above 60."""
    function = Function(prime, (), (1,))
    function._top = top
    function._bottom = bottom
    return function


def power_quotient(prime, top, base, many):
    """The quotient of a polynomial and of a power of a monic one, shortened by divisors of this one alone."""
    extra = (1,)
    for _ in range(many if top else 0):
        common = common_divisor(prime, top, base)
        if common == (1,):
            break
        top = quotient_of(prime, top, common)
        extra = multiply(prime, extra, common)
    if not top:
        return made_function(prime, (), (1,))
    return made_function(prime, top, quotient_of(prime, power_of(prime, base, many), extra))


def slope_top(prime, top, bottom, slope, many):
    """The top over the next power of the slope of top / bottom ** many, told the slope of the bottom."""
    return add_scaled(prime, multiply(prime, slope_of(prime, top), bottom), multiply(prime, top, slope), -many)


def function_of(prime, top, bottom):
    """The quotient of two polynomials of any degrees, the lower one not ()."""
    lowest = lowest_terms(prime, top, bottom)
    return made_function(prime, lowest[0], lowest[1])


def short_functions(prime, echelon):
    """Short rows of polynomials, as functions, for the rows of an echelon."""
    width = len(echelon[0])
    tops, bottom = clear_bottoms([entry for row in echelon for entry in row])
    rows = short_rows(prime, [tops[start:start + width] for start in range(0, len(tops), width)], bottom)
    return [[made_function(prime, top, (1,)) for top in row] for row in rows]


def lowest_terms(prime, top, bottom):
    """The pair of top and bottom in lowest terms, for a bottom that is not ()."""
    common = common_divisor(prime, top, bottom)
    unit = inverse(prime, bottom[-1])
    top = scale(prime, quotient_of(prime, top, common), unit)
    return top, scale(prime, quotient_of(prime, bottom, common), unit)


def shortened(prime, top, bottom, common):
    """The quotient of two polynomials, the lower one monic, all of whose common divisors divide a third one."""
    extra = common_divisor(prime, top, common)
    return made_function(prime, quotient_of(prime, top, extra), quotient_of(prime, bottom, extra))


def add_function(one, other, factor):
    """The sum of a function and of another one times an integer."""
    check_same_prime((one, other))
    prime = one.prime
    common = one.bottom
    if other.bottom != common:
        common = common_divisor(prime, one.bottom, other.bottom)
    left = quotient_of(prime, one.bottom, common)
    right = quotient_of(prime, other.bottom, common)
    top = add_scaled(prime, multiply(prime, one.top, right), multiply(prime, other.top, left), factor)
    return shortened(prime, top, multiply(prime, one.bottom, right), common)


def multiply_function(one, other):
    """The product of two functions; tops and bottoms are shortened first, as that is quicker than later."""
    check_same_prime((one, other))
    prime = one.prime
    left = common_divisor(prime, one.top, other.bottom)
    right = common_divisor(prime, other.top, one.bottom)
    top = multiply(prime, quotient_of(prime, one.top, left), quotient_of(prime, other.top, right))
    bottom = multiply(prime, quotient_of(prime, one.bottom, right), quotient_of(prime, other.bottom, left))
    return made_function(prime, top, bottom)


def turned_round(function):
    """1 divided by a function other than 0."""
    prime = function.prime
    unit = inverse(prime, function.top[-1])
    return made_function(prime, scale(prime, function.bottom, unit), scale(prime, function.top, unit))


def slope_once(function):
    """The slope of a function."""
    prime, top, bottom = function.prime, function.top, function.bottom
    falling = slope_of(prime, bottom)
    common = common_divisor(prime, bottom, falling)
    left = quotient_of(prime, bottom, common)
    right = quotient_of(prime, falling, common)
    rising = multiply(prime, slope_of(prime, top), left)
    upper = add_scaled(prime, rising, multiply(prime, top, right), -1)
    return shortened(prime, upper, multiply(prime, bottom, left), common)


def wide_top(function):
    """The top of a function over the power of its bottom that is a function of t."""
    prime = function.prime
    return multiply(prime, function.top, power_of(prime, function.bottom, prime - 1))


def part_of_top(function, wide, place):
    """A part of a function, by its index, from its wide top."""
    return function_of(function.prime, trimmed(wide[place::function.prime]), function.bottom)


def join_parts(parts):
    """The function with these parts, as many as their prime."""
    prime = len(parts)
    tops, bottom = clear_bottoms(parts)
    numbers = [0 for _ in range(prime * max([len(top) for top in tops]))]
    for place, top in enumerate(tops):
        for power, number in enumerate(top):
            numbers[power * prime + place] = number
    return function_of(prime, trimmed(numbers), spread_out(prime, bottom))


def clear_bottoms(functions):
    """The pair of the tops of functions of one prime over one bottom, the least one, and of this bottom."""
    prime = functions[0].prime
    bottom = (1,)
    for function in functions:
        common = common_divisor(prime, bottom, function.bottom)
        bottom = multiply(prime, bottom, quotient_of(prime, function.bottom, common))
    tops = [multiply(prime, function.top, quotient_of(prime, bottom, function.bottom)) for function in functions]
    return tops, bottom


def poly_text(poly):
    """The text of a polynomial."""
    return " + ".join([term_text(number, power) for power, number in enumerate(poly) if number]) or "0"


def term_text(number, power):
    """The text of a number other than 0 at a power of x."""
    if power == 0:
        return str(number)
    letter = "x" if power == 1 else f"x^{power}"
    return letter if number == 1 else f"{number} {letter}"


def check_function(function):
    """Refuse every value that is no function."""
    if not isinstance(function, Function):
        raise InvalidFunction("not a function")


def check_functions(functions):
    """Refuse every value that is no tuple of at least one function."""
    if not isinstance(functions, tuple) or not functions:
        raise InvalidFunction("not a tuple of functions")
    for function in functions:
        check_function(function)


def check_same_prime(values):
    """Refuse functions and operators of unlike primes."""
    if any([value.prime != values[0].prime for value in values]):
        raise InvalidOperation("values of unlike primes")


def are_independent(functions):
    """Whether from one to eight functions are independent."""
    check_functions(functions)
    if len(functions) > MOST_JUDGED:
        raise InvalidFunction("more functions than can be judged")
    check_same_prime(functions)
    rows = [clear_bottoms(function.parts())[0] for function in functions]
    return count_rank(functions[0].prime, rows) == len(functions)
