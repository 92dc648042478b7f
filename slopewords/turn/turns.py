"""Turns: what D to the power of the prime does to the rests by an operator."""

from slopewords.base.arithmetic import is_within
from slopewords.errors import InvalidNumber, InvalidOperation, TooMany, UnknownName
from slopewords.line.elimination import count_rank, own_numbers
from slopewords.oper.division import power_rest, right_quotient
from slopewords.oper.operators import Operator, check_operator
from slopewords.turn.whole import idle_tops, product_tops, quotients, tops_by_division, tops_by_halves, tops_by_steps

MAX_DEGREE = 4
MAX_TOP = 24
ROADS = ("division", "steps", "halves")
MOST_STEPS = 14


def check_turning(operator):
    """Refuse every value that is no operator of a degree from 1 on."""
    check_operator(operator)
    if operator.degree < 1:
        raise InvalidOperation("an operator of a degree below 1 has no turn")


def check_size(operator):
    """Refuse operators of too great a degree, and those with too long functions."""
    if operator.degree > MAX_DEGREE:
        raise TooMany(MAX_DEGREE)
    if any([is_long(entry, MAX_TOP) for entry in operator.entries]):
        raise TooMany(MAX_TOP)


def is_long(function, limit):
    """Whether the top or the bottom of a function has a degree above a limit."""
    return max(len(function.top), len(function.bottom)) > limit + 1


def step_table(operator, many):
    """The step table of a number."""
    check_turning(operator)
    if not is_within(many, 0, MOST_STEPS):
        raise InvalidNumber(many)
    check_size(operator)
    tops, bottom = tops_by_division(operator, many)
    return quotients(operator.prime, tops, bottom, many)


def turn(operator, *, road="division"):
    """The step table of the prime, by one of three roads."""
    check_turning(operator)
    if not isinstance(road, str) or road not in ROADS:
        raise UnknownName(road)
    check_size(operator)
    tops, bottom = road_tops(operator, road)
    return quotients(operator.prime, tops, bottom, operator.prime)


def road_tops(operator, road):
    """The tops of the turn over bottom ** prime, and the bottom, by a road."""
    if road == "steps":
        return tops_by_steps(operator, operator.prime)
    if road == "halves":
        return tops_by_halves(operator, operator.prime)
    return tops_by_division(operator, operator.prime)


def turn_ranks(operator):
    """The ranks of the turn and of its further powers, up to the first one that is equal to the next one."""
    check_turning(operator)
    check_size(operator)
    tops, _ = tops_by_division(operator, operator.prime)
    return ranks_of_powers(operator.prime, tops)


def ranks_of_powers(prime, tops):
    """The ranks of the powers of a square table of polynomials.

    The last rank is told by the number of times that y divides the own polynomial. No rank falls by more than the
    one ahead of it, so behind a step of 1 all steps are 1.
    """
    size = len(tops)
    last = max([place for place, number in enumerate(own_numbers(prime, tops)) if number])
    ranks = [size]
    power = idle_tops(size)
    while ranks[-1] > last:
        if len(ranks) > 1 and ranks[-2] - ranks[-1] == 1:
            ranks.append(ranks[-1] - 1)
        else:
            power = product_tops(prime, power, tops)
            ranks.append(count_rank(prime, power))
    return tuple(ranks[1:]) or (size,)


def is_flat(operator):
    """Whether the turn is 0."""
    check_turning(operator)
    check_size(operator)
    return not power_rest(operator, operator.prime)


def flat_paper(operator):
    """What shows that the operator is flat, or that it is not.

    Each further row of the turn is made of the row ahead of it, so if some entry is not 0, one of the first row is not.
    """
    check_turning(operator)
    check_size(operator)
    prime = operator.prime
    rest = power_rest(operator, prime)
    if rest:
        return "entry", 0, min([index for index, entry in enumerate(rest.entries) if entry])
    return "flat", right_quotient(Operator.slopes(prime, prime), operator)
