"""Operators that lead one operator to another one, and operators that are alike."""

from slopewords.base.arithmetic import add_scaled, common_divisor, is_integer, multiply, power_of, quotient_of
from slopewords.errors import InvalidOperation, TooMany
from slopewords.func.functions import Function, check_same_prime, join_parts, short_functions
from slopewords.kin.flats import flat_echelon
from slopewords.line.elimination import count_rank, eliminate, kernel_columns, without_content
from slopewords.oper.common import division_rows, last_rest, made_monic
from slopewords.oper.division import divide_right
from slopewords.oper.operators import Operator, check_operator, made_operator, multiply_operator
from slopewords.turn.norms import norm_of
from slopewords.turn.roots import linear_power, rest_without, roots_of, rows_at_turn
from slopewords.turn.turns import is_long, ranks_of_powers
from slopewords.turn.whole import first_tops, idle_tops, product_tops, tops_by_division

MAX_LED = 3
MAX_TOP = 24


def check_led(operators, *, sized=2):
    """Refuse what are no operators of one prime, and wrong sizes of so many of them."""
    for operator in operators:
        check_operator(operator)
    check_same_prime(operators)
    ends = operators[:sized]
    if any([operator.degree < 1 for operator in ends]):
        raise InvalidOperation("an operator of a degree below 1")
    if any([operator.degree > MAX_LED for operator in ends]):
        raise TooMany(MAX_LED)
    if any([is_long(entry, MAX_TOP) for operator in ends for entry in operator.entries]):
        raise TooMany(MAX_TOP)


def leading_base(one, other):
    """The echelon base of the operators that lead one operator to the other one."""
    check_led((one, other))
    return base_between(one, other)


def base_between(one, other):
    """The echelon base."""
    if not number_between(one, other):
        return ()
    return tuple([operator_of_parts(one.prime, row) for row in rows_between(one, other)])


def rows_between(one, other):
    """The rows of the echelon base: those of all tables between the turns whose entries fulfil a system."""
    return flat_echelon(one.prime, slope_system(one, other), tables_between(one, other), one.degree)


def tables_between(one, other):
    """A base of all tables S with turn S = S turn, for the turns of the other one and of one, row by row.

    If the first rows of the powers of the left turn are independent, the first row s of S tells all of S: these rows
    times S are the products of s and the powers of the right turn. All rows s do of which the norm of the other one,
    with the right turn for y, makes 0.
    """
    prime, size = one.prime, one.degree
    left, bottom = tops_by_division(other, prime)
    left_rows = power_rows(prime, idle_tops(len(left))[0], left, bottom, len(left))
    if count_rank(prime, left_rows) < len(left):
        return kernel_columns(prime, turn_system(one, other))
    right, bottom = tops_by_division(one, prime)
    nulled = rows_at_turn(one, norm_of(other))
    starts = kernel_columns(prime, [list(column) for column in zip(*nulled)])
    table = left_rows
    for start in starts:
        products = power_rows(prime, start, right, bottom, len(left))
        table = [row + further for row, further in zip(table, products)]
    rows = eliminate(prime, table, len(left), whole=True)[0]
    places = range(len(left), len(left) + size * len(starts), size)
    return [without_content(prime, [entry for row in rows for entry in row[place:place + size]]) for place in places]


def power_rows(prime, row, tops, bottom, many):
    """The products of a row and of so many powers of a table over bottom ** prime, itself first, over one bottom."""
    lift = power_of(prime, bottom, prime)
    found = [list(row)]
    for _ in range(many - 1):
        found.append(product_tops(prime, [found[-1]], tops)[0])
    return [[multiply(prime, entry, power_of(prime, lift, many - 1 - number)) for entry in further]
            for number, further in enumerate(found)]


def operator_of_parts(prime, row):
    """The operator whose entries have these parts, one entry behind the other."""
    return made_operator(prime, [join_parts(row[start:start + prime]) for start in range(0, len(row), prime)])


def slope_system(one, other):
    """The system of the tables of operators that lead one operator to the other one, row by row.

    Row i + 1 of such a table is the slope of row i and row i times the first step table of one; behind the last row
    comes what the last row of the first step table of the other one tells.
    """
    prime = one.prime
    left, left_bottom = first_tops(other)
    right, right_bottom = first_tops(one)
    bottom, left_lift, right_lift = lifts(prime, left_bottom, right_bottom)
    return between(prime, lifted(prime, left, left_lift), lifted(prime, right, right_lift)), bottom


def turn_system(one, other):
    """The table that makes of a table, row by row, its product with the turns of both sides, their difference."""
    prime = one.prime
    left, left_bottom = tops_by_division(other, prime)
    right, right_bottom = tops_by_division(one, prime)
    _, left_lift, right_lift = lifts(prime, left_bottom, right_bottom)
    return between(prime, lifted(prime, left, power_of(prime, left_lift, prime)),
                   lifted(prime, right, power_of(prime, right_lift, prime)))


def lifts(prime, one, other):
    """The triple of the least common multiple of two bottoms, and of what each one lacks of it."""
    common = common_divisor(prime, one, other)
    lift = quotient_of(prime, other, common)
    return multiply(prime, one, lift), lift, quotient_of(prime, one, common)


def lifted(prime, tops, lift):
    """A table of tops, each times a polynomial."""
    return [[multiply(prime, top, lift) for top in row] for row in tops]


def between(prime, left, right):
    """The table that makes of the entries of S, row by row, those of left S - S right."""
    many, size = len(left), len(right)
    table = []
    for place in range(many * size):
        row, column = place // size, place % size
        entries = [() for _ in range(many * size)]
        for index, top in enumerate(left[row]):
            entries[index * size + column] = top
        for index in range(size):
            spot = row * size + index
            entries[spot] = add_scaled(prime, entries[spot], right[index][column], -1)
        table.append(entries)
    return table


def leading_number(one, other):
    """How many independent operators lead one operator to the other one."""
    check_led((one, other))
    return number_between(one, other)


def number_between(one, other):
    """The number, told by the pieces."""
    total = 0
    for norm, power, times in pieces_of(one):
        for other_norm, other_power, other_times in pieces_of(other):
            if norm == other_norm:
                total = total + min(power, other_power) * times * other_times * (len(norm) - 1)
    return total


def does_lead(one, other, value):
    """Whether the value is an operator that leads one operator to the other one."""
    check_led((one, other))
    return leads(one, other, value)


def leads(one, other, value):
    """Whether the value is an operator of a lesser degree that leads one operator to the other one."""
    if not isinstance(value, Operator) or value.prime != one.prime or value.degree >= one.degree:
        return False
    return not divide_right(multiply_operator(other, value), one)[1]


def check_leading(one, other, operator):
    """Refuse an operator that does not lead one operator to the other one."""
    check_led((one, other, operator))
    if not leads(one, other, operator):
        raise InvalidOperation("the operator does not lead the one to the other one")


def led_behind(one, other, operator):
    """The operator V for which the other one times the operator is V one."""
    check_leading(one, other, operator)
    return divide_right(multiply_operator(other, operator), one)[0]


def leading_table(one, other, operator):
    """The table whose rows are the entries of the rests of all D ** i times the operator by one."""
    check_leading(one, other, operator)
    return table_between(one, other, operator)


def table_between(one, other, operator):
    """The table, row by row."""
    slopes = Operator.slopes(one.prime, 1)
    rows = []
    for _ in range(other.degree):
        rows.append(tuple([operator.entry(index) for index in range(one.degree)]))
        operator = divide_right(multiply_operator(slopes, operator), one)[1]
    return tuple(rows)


def pieces(operator):
    """The tuple of the triples (P, k, times): roots first, the rest behind them."""
    check_led((operator,))
    return pieces_of(operator)


def pieces_of(operator):
    """The pieces of an operator of a degree from 1 to 3, with functions of any lengths."""
    norm = norm_of(operator)
    rows = roots_of(norm)
    found = []
    for root, many in rows:
        linear = linear_power(root, 1)
        for power, times in powers_of_root(operator, linear, many):
            found.append((linear, power, times))
    rest = rest_without(norm, rows)
    if len(rest) > 1:
        found.append((rest, 1, 1))
    return tuple(found)


def powers_of_root(operator, linear, many):
    """The pairs of a power and of how often the piece of a root with this power is there."""
    if many == 1:
        return [(1, 1)]
    ranks = [operator.degree, *ranks_of_powers(operator.prime, rows_at_turn(operator, linear))]
    ranks.append(ranks[-1])
    found = []
    for power in range(1, len(ranks) - 1):
        times = ranks[power - 1] - 2 * ranks[power] + ranks[power + 1]
        if times:
            found.append((power, times))
    return found


def are_alike(one, other):
    """Whether two operators are alike."""
    check_led((one, other))
    return pieces_of(one) == pieces_of(other)


def alike_paper(one, other):
    """Operators that lead to and fro and undo each other, or what shows that there are none."""
    check_led((one, other))
    if one.degree != other.degree:
        return ("degree",)
    others = pieces_of(other)
    for piece in pieces_of(one):
        if piece not in others:
            return "piece", piece[0], piece[1]
    operator = undoable(one, other)
    return "leading", operator, undone(one, operator)


def undoable(one, other):
    """An operator that leads one operator to the other one, and can be undone."""
    prime = one.prime
    rows = short_functions(prime, rows_between(one, other))
    sizes = sorted([(max([len(entry.top) for entry in row]), place) for place, row in enumerate(rows)])
    shortest_first = [operator_of_parts(prime, rows[place]) for _, place in sizes]
    for operator in sums_of(shortest_first):
        if is_undoable(one, operator):
            return operator
    return None


def sums_of(base):
    """A generator of sums of few operators, some of which can be undone if any sum of multiples can.

    The determinant of the table of a sum is a polynomial in the multiples, each of its terms of one degree up to 3.
    If it is not 0, take the term with the fewest multiples, and 0 for all others. Then one or three of them can be 1,
    and of two the first one can be 1 and the second one 1 or t.
    """
    for one in base:
        yield one
    for index, one in enumerate(base):
        for other in base[:index]:
            yield one + other
            yield one + other.led(Function.letter(one.prime).spread())
    for index, one in enumerate(base):
        for place, other in enumerate(base[:index]):
            for further in base[:place]:
                yield one + other + further


def is_undoable(one, operator):
    """Whether the right common one with one is 1."""
    return last_rest(one, operator).degree == 0


def undone(one, operator):
    """The only operator of a lesser degree than one whose product with the operator has the rest 1 by one."""
    return made_monic(division_rows(operator, one)[0])[1]


def is_alike_paper(one, other, value):
    """Whether the value tells operators that lead to and fro and undo each other, or shows that there are none."""
    check_led((one, other))
    if not isinstance(value, tuple) or not value or not isinstance(value[0], str):
        return False
    if value[0] == "leading" and len(value) == 3:
        return one.degree == other.degree and are_undone(one, other, value[1], value[2])
    if value[0] == "piece" and len(value) == 3:
        return is_unlike_piece(one, other, value[1], value[2])
    return value == ("degree",) and one.degree != other.degree


def are_undone(one, other, operator, further):
    """Whether the values lead one operator to the other one and back, and their product has the rest 1 by one."""
    if not leads(one, other, operator) or not leads(other, one, further):
        return False
    product = multiply_operator(further, operator)
    return divide_right(product, one)[1] == Operator.slopes(one.prime, 0)


def is_unlike_piece(one, other, norm, power):
    """Whether the values are a piece of one of both that the other one does not have equally often."""
    return is_integer(power) and often(one, norm, power) != often(other, norm, power)


def often(operator, norm, power):
    """How often the operator has a piece."""
    return sum([times for told, told_power, times in pieces_of(operator) if told == norm and told_power == power])
