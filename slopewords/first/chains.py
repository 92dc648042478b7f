"""Irreducible operators, and chains of such factors."""

from slopewords.errors import InvalidOperation, Refused, TooMany
from slopewords.base.arithmetic import is_integer
from slopewords.first.factors import SIDES, first_factor, function_size, is_first_bar
from slopewords.first.sources import bars_of
from slopewords.func.functions import check_same_prime, clear_bottoms
from slopewords.line.elimination import count_rank
from slopewords.oper.division import divide_right
from slopewords.oper.operators import Operator, check_operator
from slopewords.turn.norms import norm_of
from slopewords.turn.roots import part_of, rest_without, roots_of
from slopewords.turn.turns import check_size, check_turning, is_long

MAX_SPLIT = 3
MAX_TOP = 24
MOST_EXCHANGED = 4


def check_split(operator):
    """Refuse what is no operator of a degree from 1 to 3 with functions that are short enough."""
    check_turning(operator)
    if operator.degree > MAX_SPLIT:
        raise TooMany(MAX_SPLIT)
    check_size(operator)


def split_paper(operator):
    """Any two factors, or what shows that the operator is irreducible."""
    check_split(operator)
    return split_of(operator)


def split_of(operator):
    """The paper for an operator of a degree from 1 to 3, with functions of any lengths."""
    if operator.degree == 1:
        return ("first",)
    roots = [root for root, _ in roots_of(norm_of(operator))]
    if not roots:
        return ("norm",)
    sourced = [root for root in roots if not bars_of(root)]
    if not sourced:
        return ("place", roots[0], *bars_of(roots[0])[0])
    return ("factors", *short_factors(operator, sourced))


def short_factors(operator, roots):
    """A pair of factors, one of them with a root: one that is no longer than the operator, or the shortest one.

    Exchanged factors can be far longer, and each further one would be longer still.
    """
    limit = operator_size(operator)
    found = []
    for side in SIDES:
        for root in roots:
            pair = factor_pair(operator, root, side)
            size = max(operator_size(pair[0]), operator_size(pair[1]))
            if size <= limit:
                return pair
            found.append((size, pair))
    sizes = [size for size, _ in found]
    return found[sizes.index(min(sizes))][1]


def factor_pair(operator, root, side):
    """The pair of factors whose product is the operator, that with the root on a side."""
    function, other = first_factor(operator, root, side)
    factor = Operator.factor(function)
    return (factor, other) if side == "left" else (other, factor)


def operator_size(operator):
    """The number of numbers of the longest polynomial of all functions."""
    return max([function_size(entry) for entry in operator.entries])


def is_split_paper(operator, value):
    """Whether the value is any two factors, or shows that the operator is irreducible."""
    check_split(operator)
    if not isinstance(value, tuple) or not value or not isinstance(value[0], str):
        return False
    if value[0] == "factors":
        return len(value) == 3 and is_product(operator, value[1:])
    paper = split_of(operator)
    if value[0] == "place":
        return value[:2] == paper[:2] and len(value) == 4 and is_first_bar(paper[1], value[2], value[3])
    return len(value) == 1 and value == paper


def is_product(operator, factors):
    """Whether the values are operators of degrees from 1 on whose product, in their sequence, is the operator."""
    if not all([isinstance(factor, Operator) and factor.prime == operator.prime for factor in factors]):
        return False
    if any([factor.degree < 1 for factor in factors]):
        return False
    if sum([factor.degree for factor in factors]) != operator.degree:
        return False
    product = factors[0]
    for factor in factors[1:]:
        product = product * factor
    return product == operator


def is_irreducible_operator(operator):
    """Whether the operator is no product of two of degrees from 1 on."""
    check_split(operator)
    return length_of(operator) == 1


def chain(operator):
    """A tuple of irreducible operators whose product is the operator."""
    check_split(operator)
    return chain_of(operator)


def chain_of(operator):
    """A chain of an operator of a degree from 1 to 3, with functions of any lengths."""
    paper = split_of(operator)
    if paper[0] != "factors":
        return (operator,)
    return (*chain_of(paper[1]), *chain_of(paper[2]))


def chain_length(operator):
    """The number of the members of each chain."""
    check_split(operator)
    return length_of(operator)


def length_of(operator):
    """The length: a root that is barred belongs to operators of the degree of the prime, all others to firsts."""
    norm = norm_of(operator)
    rows = roots_of(norm)
    length = sum([many // operator.prime if bars_of(root) else many for root, many in rows])
    return length if sum([many for _, many in rows]) == operator.degree else length + 1


def is_chain(operator, value):
    """Whether the value is a chain of the operator."""
    check_split(operator)
    return is_chain_of(operator, value)


def is_chain_of(operator, value):
    """Whether the value is a chain: with less than all members some product of members would be longer."""
    if not isinstance(value, tuple) or not value:
        return False
    return is_product(operator, value) and len(value) == length_of(operator)


def check_chains(operator, one, other):
    """Refuse what are no two chains of an operator."""
    check_split(operator)
    if not is_chain_of(operator, one) or not is_chain_of(operator, other):
        raise InvalidOperation("not two chains of the operator")


def chain_pairs(operator, one, other):
    """Indices by which each member of one chain is alike to one of the other chain."""
    check_chains(operator, one, other)
    norms = [monic_norm(member) for member in other]
    found = []
    for member in one:
        told = monic_norm(member)
        found.append([index for index, further in enumerate(norms) if further == told and index not in found][0])
    return tuple(found)


def is_chain_pairs(operator, one, other, value):
    """Whether the value is such a tuple of indices."""
    check_chains(operator, one, other)
    if not isinstance(value, tuple) or not all([is_integer(index) for index in value]):
        return False
    if sorted(value) != list(range(len(one))):
        return False
    return all([monic_norm(member) == monic_norm(other[index]) for member, index in zip(one, value)])


def monic_norm(operator):
    """The norm, divided by its last function."""
    return rest_without(norm_of(operator), ())


def exchanged(one, other):
    """The pair (B', A') with B' A' as one other, A' monic and alike to one."""
    check_exchange(one, other)
    product = one * other
    factor = part_of(product, monic_norm(one))
    return divide_right(product, factor)[0], factor


def check_exchange(one, other):
    """Refuse what are no two operators that can be exchanged."""
    check_operator(one)
    check_operator(other)
    check_same_prime((one, other))
    if one.degree < 1 or other.degree < 1:
        raise InvalidOperation("an operator of a degree below 1")
    if one.degree + other.degree > MOST_EXCHANGED:
        raise TooMany(MOST_EXCHANGED)
    if any([is_long(entry, MAX_TOP) for entry in [*one.entries, *other.entries]]):
        raise TooMany(MAX_TOP)
    if have_common(norm_of(one), norm_of(other)):
        raise Refused(("common",))


def have_common(one, other):
    """Whether two norm polynomials have a common divisor of a degree from 1 on in y.

    This is so exactly if sums of few multiples of both by powers of y can be 0.
    """
    low, high = len(one) - 1, len(other) - 1
    rows = shifted_rows(clear_bottoms(one)[0], high) + shifted_rows(clear_bottoms(other)[0], low)
    return count_rank(one[0].prime, rows) < low + high


def shifted_rows(tops, many):
    """The rows of the products of a polynomial in y and so many powers of y."""
    return [[() for _ in range(place)] + tops + [() for _ in range(many - 1 - place)] for place in range(many)]
