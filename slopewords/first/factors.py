"""Factors of degree 1 of operators, on both sides."""

from slopewords.base.arithmetic import is_integer
from slopewords.errors import InvalidOperation, UnknownName
from slopewords.first.sources import bars_of, source_of
from slopewords.func.functions import Function, check_function, check_same_prime, join_parts, short_functions
from slopewords.func.places import is_end
from slopewords.func.slopes import turn_of
from slopewords.line.elimination import count_rank
from slopewords.made.rows import made_base
from slopewords.oper.changes import tilt, turn_over
from slopewords.oper.division import divide_left, divide_right, value_at
from slopewords.oper.operators import Operator
from slopewords.turn.norms import norm_of, worth_at
from slopewords.turn.roots import linear_power, roots_of, rows_at_turn
from slopewords.turn.turns import check_size, check_turning

MAX_DEGREE = 4
MAX_TOP = 24
SIDES = ("right", "left")


def check_first(operator, root, *, side="right"):
    """Refuse what are no operator with a turn, no function and no side, unlike primes, and too great sizes."""
    check_turning(operator)
    check_function(root)
    check_side_word(side)
    check_same_prime((operator, root))
    check_size(operator)


def check_side_word(side):
    """Refuse every value that is no side."""
    if not isinstance(side, str) or side not in SIDES:
        raise UnknownName(side)


def first_paper(operator, root, *, side="right"):
    """Any factor of degree 1 with a root, or what shows that there is none."""
    check_first(operator, root, side=side)
    if worth_at(norm_of(operator), root):
        return ("root",)
    return root_paper(operator, root, side)


def root_paper(operator, root, side):
    """The paper for a root of the norm."""
    barring = bars_of(root)
    if barring:
        return ("place", *barring[0])
    return ("factor", *first_factor(operator, root, side))


def first_factor(operator, root, side):
    """A pair (f, M) for a root with a source: the operator is M (D - f), or (D - f) M on the left."""
    if side == "left":
        function = -shortest_first(turn_over(operator), -root)
        return function, divide_left(operator, Operator.factor(function))[0]
    function = shortest_first(operator, root)
    return function, divide_right(operator, Operator.factor(function))[0]


def shortest_first(operator, root):
    """A short function f with this turn for which D - f is a right factor."""
    firsts = list_firsts(operator, root)
    sizes = [function_size(function) for function in firsts]
    return firsts[sizes.index(min(sizes))]


def list_firsts(operator, root):
    """Functions f with this turn for which D - f is a right factor, as many as the width tells.

    The least common left multiple of all D - f has this number as its degree. They are made of short functions u.
    """
    source = source_of(root)
    rows = short_functions(operator.prime, [made.parts() for made in made_base(tilt(operator, source))])
    short = [join_parts(row) for row in rows]
    return [source + made.slope() // made for made in short]


def function_size(function):
    """The number of numbers of the longer one of top and bottom."""
    return max(len(function.top), len(function.bottom))


def is_first_paper(operator, root, value, *, side="right"):
    """Whether the value is such a paper: any factor, the first place, or that there is no such root."""
    check_first(operator, root, side=side)
    if not isinstance(value, tuple) or len(value) not in (1, 3) or not isinstance(value[0], str):
        return False
    if value[0] == "factor":
        return len(value) == 3 and is_first_factor(operator, root, value[1:], side)
    has_root = not worth_at(norm_of(operator), root)
    if value[0] == "place":
        return len(value) == 3 and has_root and is_first_bar(root, value[1], value[2])
    return value == ("root",) and not has_root


def is_first_factor(operator, root, value, side):
    """Whether the pair tells a factor with this root on a side."""
    function, other = value
    if not isinstance(function, Function) or not isinstance(other, Operator):
        return False
    if function.prime != operator.prime or other.prime != operator.prime:
        return False
    factor = Operator.factor(function)
    product = factor * other if side == "left" else other * factor
    return product == operator and turn_of(function) == root


def is_first_bar(root, place, trace):
    """Whether the values are the first place that bars all sources, and the trace there."""
    barring = bars_of(root)
    if not barring or not is_integer(trace) or trace != barring[0][1]:
        return False
    return is_same_place(place, barring[0][0])


def is_same_place(value, place):
    """Whether the value is a place, of any degree."""
    if is_end(place):
        return is_end(value)
    return isinstance(value, tuple) and all([is_integer(number) for number in value]) and value == place


def first_width(operator, root):
    """The number of independent functions that lead to right factors with this root."""
    check_first(operator, root)
    width = operator.degree - count_rank(operator.prime, rows_at_turn(operator, linear_power(root, 1)))
    return 0 if width and bars_of(root) else width


def first_room(operator, function):
    """The echelon base of the functions u for which D less the function and u' / u is a right factor."""
    check_first(operator, function)
    if value_at(operator, function):
        raise InvalidOperation("D less the function is no right factor")
    return made_base(tilt(operator, function))


def firsts(operator, *, side="right"):
    """The tuple of the pairs of a root of the norm and of the paper for it."""
    check_turning(operator)
    check_side_word(side)
    check_size(operator)
    return tuple([(root, root_paper(operator, root, side)) for root, _ in roots_of(norm_of(operator))])
