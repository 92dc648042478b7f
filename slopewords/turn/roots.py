"""Roots of norm polynomials, and the parts of operators that belong to them."""

from slopewords.base.arithmetic import add_scaled, binomial_row, multiply, power_of, trimmed
from slopewords.errors import TooMany
from slopewords.func.functions import Function, check_function, check_same_prime, clear_bottoms, function_of
from slopewords.line.tables import echelon
from slopewords.oper.operators import Operator, made_operator
from slopewords.turn.norms import check_norm, check_not_empty, norm_of, worth_at
from slopewords.turn.turns import check_size, is_long
from slopewords.turn.whole import idle_tops, product_tops, sum_tops, tops_by_division

MAX_NORM = 4
MAX_FUNCTION = 24


def check_norm_size(norm):
    """Refuse norm polynomials of too great a degree, and those with too long functions."""
    if len(norm) > MAX_NORM + 1:
        raise TooMany(MAX_NORM)
    if any([is_long(entry, MAX_FUNCTION) for entry in norm]):
        raise TooMany(MAX_FUNCTION)


def roots(norm):
    """The tuple of the pairs of a root and of its number, by bottoms, then by tops."""
    check_norm(norm)
    check_norm_size(norm)
    return roots_of(norm)


def roots_of(norm):
    """The pairs of all roots and numbers: all roots of the whole norm, divided by the last polynomial."""
    prime = norm[0].prime
    polys, _ = clear_bottoms(norm)
    found = [function_of(prime, root, polys[-1]) for root in whole_roots(prime, whole_norm(prime, polys))]
    rows = sorted([(root.bottom, root.top, place) for place, root in enumerate(found)])
    return tuple([(found[row[2]], number_of(norm, found[row[2]])) for row in rows])


def whole_norm(prime, polys):
    """The monic polynomial in y whose roots are those of another one, times its last polynomial."""
    size = len(polys) - 1
    lift = (1,)
    found = [(1,)]
    for poly in polys[:size][::-1]:
        found.append(multiply(prime, poly, lift))
        lift = multiply(prime, lift, polys[-1])
    return found[::-1]


def whole_roots(prime, polys):
    """All polynomials that are roots of a monic polynomial in y, number by number from the lowest power of t on.

    A branch is a polynomial in y for what is still to come behind the numbers found so far. It has never more branches
    than the degree tells, and behind the longest numbers that there can be, those of the roots have the root 0.
    """
    size = len(polys) - 1
    longest = max([(len(poly) - 1) // (size - place) for place, poly in enumerate(polys[:size])], default=0)
    branches = [((), polys)]
    for _ in range(longest + 1):
        branches = [((*numbers, number), moved_branch(prime, branch, number))
                    for numbers, branch in branches for number in low_roots(prime, branch)]
    return [trimmed(numbers) for numbers, branch in branches if not branch[0]]


def low_roots(prime, polys):
    """The numbers that are roots if t is 0."""
    lows = [poly[0] if poly else 0 for poly in polys]
    found = []
    for number in range(prime):
        worth = 0
        for low in lows[::-1]:
            worth = (worth * number + low) % prime
        if worth == 0:
            found.append(number)
    return found


def moved_branch(prime, polys, number):
    """A polynomial in y with t y + a number for y, divided by as many t as can be."""
    powers = [1]
    for _ in polys[1:]:
        powers.append(powers[-1] * number % prime)
    moved = [() for _ in polys]
    for place, poly in enumerate(polys):
        for low, factor in enumerate(binomial_row(prime, place)):
            moved[low] = add_scaled(prime, moved[low], poly, factor * powers[place - low])
    moved = [(0,) * low + poly if poly else () for low, poly in enumerate(moved)]
    shift = min([len(poly) - len(trimmed(poly[::-1])) for poly in moved if poly])
    return [poly[shift:] for poly in moved]


def number_of(norm, function):
    """How often a function of the same prime is a root."""
    many = 0
    rest, norm = split_root(norm, function)
    while not rest:
        many += 1
        rest, norm = split_root(norm, function)
    return many


def split_root(norm, function):
    """The value at a function, and the polynomial in y that is left behind a division by y less the function."""
    found = []
    worth = Function.number(function.prime, 0)
    for entry in norm[::-1]:
        worth = worth * function + entry
        found.append(worth)
    return worth, tuple(found[:-1][::-1])


def is_root(norm, value):
    """Whether the value is a function of t that is a root."""
    check_norm(norm)
    check_norm_size(norm)
    if not isinstance(value, Function) or value.prime != norm[0].prime:
        return False
    return not worth_at(norm, value)


def root_number(norm, function):
    """How often a function of t is a root."""
    check_norm(norm)
    check_function(function)
    check_same_prime((norm[0], function))
    check_norm_size(norm)
    return number_of(norm, function)


def rootless(norm):
    """The monic norm polynomial that has no roots left."""
    check_norm(norm)
    check_norm_size(norm)
    return rest_without(norm, roots_of(norm))


def rest_without(norm, rows):
    """The monic norm polynomial that is left without some roots, so often as is told."""
    for root, many in rows:
        for _ in range(many):
            norm = split_root(norm, root)[1]
    return tuple([entry // norm[-1] for entry in norm])


def checked_norm(operator):
    """The norm of an operator whose functions are short enough; refused if the norm has too long functions."""
    check_size(operator)
    norm = norm_of(operator)
    check_norm_size(norm)
    return norm


def root_part(operator, function):
    """The part of a function of t; 1 if it is no root of the norm."""
    check_not_empty(operator)
    check_function(function)
    check_same_prime((operator, function))
    norm = checked_norm(operator)
    many = number_of(norm, function)
    return part_of(operator, linear_power(function, many)) if many else Operator.slopes(operator.prime, 0)


def linear_power(function, many):
    """The power of y less a function, a tuple of functions."""
    zero = Function.number(function.prime, 0)
    found = [Function.number(function.prime, 1)]
    for _ in range(many):
        lower = [function * entry for entry in found]
        found = [entry - further for entry, further in zip([zero, *found], [*lower, zero])]
    return tuple(found)


def parts(operator):
    """The tuple of the pairs of a root and of its part, and last of None and the part of the rest."""
    check_not_empty(operator)
    norm = checked_norm(operator)
    rows = roots_of(norm)
    found = [(root, part_of(operator, linear_power(root, many))) for root, many in rows]
    rest = rest_without(norm, rows)
    if len(rest) > 1:
        found.append((None, part_of(operator, rest)))
    return tuple(found)


def part_of(operator, divisor):
    """The monic greatest common right divisor with what a divisor of the norm becomes with D ** prime for y.

    The multiples of this by powers of D leave rests that are the rows of the divisor with the turn for y. The sums of
    their multiples are the rests of all multiples of the greatest common divisor, so it is the shortest one.
    """
    size = operator.degree
    if len(divisor) > size:
        return operator.monic()
    rows = rows_at_turn(operator, divisor)
    table = tuple([tuple([function_of(operator.prime, entry, (1,)) for entry in row[::-1]]) for row in rows])
    return made_operator(operator.prime, echelon(table)[-1][::-1])


def rows_at_turn(operator, divisor):
    """The table that a polynomial in y with functions of t becomes with the turn for y, times a polynomial."""
    prime, size = operator.prime, operator.degree
    tops, bottom = tops_by_division(operator, prime)
    lift = power_of(prime, bottom, prime)
    numbers, _ = clear_bottoms([entry.spread() for entry in divisor])
    idle = idle_tops(size)
    total = [[() for _ in row] for row in idle]
    power = (1,)
    for number in numbers[::-1]:
        total = product_tops(prime, total, tops)
        factor = multiply(prime, number, power)
        total = sum_tops(prime, total, [[multiply(prime, entry, factor) for entry in row] for row in idle], 1)
        power = multiply(prime, power, lift)
    return total
